/- Contracts of the program's functions, part 8 of 17: what each call returns and leaves of memory. -/
import Derived.Test.YtahfdbblndphaaaGreatDoorPk7
import Derived.Test.YtahfdbblndphaaaGreatDoorPk3
/- Package step: Feed: a token more. -/
namespace Go.Proofs.YtahfdbblndphaaaGreatDoor
open Go.ChangeShapes Go.WideShapes Go.ChangeAt Go.RowKit
/-- A model's numbers that fit their configuration. -/
structure Good (w : World) (V D Hd H L : Nat) (W : Wt) (bs : List Bk) (M : Mdl) : Prop where
  wt : WtAt w V D H W bs M
  ok : W.Ok
  len : bs.length = L
  shape : shapeN V D Hd H L = 0
  chk : checkN V D Hd H L W bs = 0
theorem Good.below {w w' : World} {V D Hd H L : Nat} {W : Wt} {bs : List Bk} {M : Mdl} (h : Good w V D Hd H L W bs M) (hb : Below w.heap.size w w') : Good w' V D Hd H L W bs M := ⟨h.wt.below hb, h.ok, h.len, h.shape, h.chk⟩
theorem shape_mod {V D Hd H L : Nat} (h : shapeN V D Hd H L = 0) : D % Hd = 0 := by
  have hk := shape_ok h
  unfold shapeN at h
  rw [if_neg (by omega), if_neg (by omega)] at h
  have h9 : (D : Int).tmod (Hd : Int) = 0 := by simpa using h
  have h8 := Int.ofNat_tmod D Hd
  omega
theorem check_good {w : World} {V D Hd H L : Nat} {W : Wt} {bs : List Bk} {M : Mdl} (h : Good w V D Hd H L W bs M) :
   Calls Tryz.prog 16 #[.agg (cfgC V D Hd H L), .agg W.cells] w fun e w' => e = .returned (.int .i64 0) ∧ Below w.heap.size w w' := by
  have hk := shape_ok h.shape
  have := mcheck_any ⟨V, D, Hd, H, L⟩ ⟨i64_nat (by omega), i64_nat (by omega), i64_nat (by omega), i64_nat (by omega), i64_nat (by omega)⟩ W bs w h.ok h.wt.b
  rw [h.chk] at this
  exact this
theorem fit_feed {M : Mdl} {V D H Hd L : Nat} {X : Vw} {tok : Nat} (hf : VwFit V D L X) (ht : tok < V) (hl : X.T.length ≤ 127) : VwFit V D L (feedV M D H Hd L X tok) := by
  have kl : ∀ l, l < L → (X.K.getD l []).length = X.T.length ∧ ∀ t, t < X.T.length → (rowOf (X.K.getD l []) t).length = D := fun l h => fit_list hf.k hf.ks h
  have vl : ∀ l, l < L → (X.V.getD l []).length = X.T.length ∧ ∀ t, t < X.T.length → (rowOf (X.V.getD l []) t).length = D := fun l h => fit_list hf.v hf.vs h
  have tl : (feedV M D H Hd L X tok).T.length = X.T.length + 1 := by unfold feedV; simp
  refine ⟨by rw [tl]; omega, ?_, ?_, ?_, ?_, ?_⟩
  · unfold feedV
    simp only [List.all_append, hf.toks, Bool.true_and, List.all_cons, List.all_nil, Bool.and_true]
    unfold tokB
    exact decide_eq_true (by omega)
  · rw [tl, if_neg (by omega)]; unfold feedV newK; simp
  · rw [tl, if_neg (by omega)]; unfold feedV newV; simp
  · intro R hR
    rw [tl]
    unfold feedV newK at hR
    simp only [List.mem_map, List.mem_range] at hR
    obtain ⟨l, h1, rfl⟩ := hR
    obtain ⟨q1, q2⟩ := kl l h1
    exact ⟨by rw [List.length_append, q1]; rfl, rowOf_snoc_len q1 q2 (apl_len _ _ _ _)⟩
  · intro R hR
    rw [tl]
    unfold feedV newV at hR
    simp only [List.mem_map, List.mem_range] at hR
    obtain ⟨l, h1, rfl⟩ := hR
    obtain ⟨q1, q2⟩ := vl l h1
    exact ⟨by rw [List.length_append, q1]; rfl, rowOf_snoc_len q1 q2 (apl_len _ _ _ _)⟩
theorem results_blk3 {fn : Func} {p u v : Tmp} {ty : TypeId} (h : fn.results = #[.cell p ty, .tmp u, .tmp v]) (tmps : Array Value) (w : World) (g : Nat) (cs : Array Value)
    (hp : tmps.getD p undef = .pointer (some ⟨g, 0, none⟩)) (hl : (loadVar ty ⟨g, 0, none⟩).run Tryz.prog w = .ok (.agg cs) w) :
    (results fn tmps).run Tryz.prog w = .ok (.tuple #[.agg cs, tmps.getD u undef, tmps.getD v undef]) w := by
  have hp' : tmps[p]?.getD undef = .pointer (some ⟨g, 0, none⟩) := by simpa using hp
  simp [results, h, hp', asAddr, hl]
theorem load_v {w : World} {g : Nat} {cs : Array Value} (h : Blk w g 58 cs) (hs : cs.size = 3) : (loadVar 58 ⟨g, 0, none⟩).run Tryz.prog w = .ok (.agg cs) w :=
  run_loadVar_row w g _ _ cs _ _ h Tryz.underlying58 rfl (by rw [hs]; exact Tryz.infoV)
/-- The cells of no view. -/
def noV : Array Value := #[.slice none 0 0, .slice none 0 0, .slice none 0 0]
set_option maxRecDepth 100000 in
set_option maxHeartbeats 800000 in
theorem feed_big (V D Hd H L : Nat) (W : Wt) (bs : List Bk) (M : Mdl) (v : VwV) (X : Vw) (tok : Int) (w : World) (hb : X.T.length = 128) (hG : Good w V D Hd H L W bs M) (hv : VwAt w v X) (hf : VwFit V D L X) :
   Calls Tryz.prog 31 #[.agg (cfgC V D Hd H L), .agg W.cells, .agg v.cells, .int .i64 tok] w fun e w' => e = .returned (.tuple #[.agg noV, .slice none 0 0, .int .i64 2]) ∧ Below w.heap.size w w' := by
  obtain ⟨q1, q2, q3, q4, q5, q6, q7, q8, q9, q10⟩ := shape_ok hG.shape
  have hlen := hv.t.row.len
  have most := hf.most
  have CK := fun (wv : World) (hb : Below w.heap.size w wv) => check_good (hG.below hb)
  have CF := fun (wv : World) (hb : Below w.heap.size w wv) => sfits_ok V D Hd H L v X wv (hv.below hb) hf (by omega)
  obtain ⟨⟨ta, n, tz⟩, ⟨ka, kn, kz⟩, ⟨va, vn, vz⟩⟩ := v
  simp only at hlen
  unfold VwV.cells Sl.v cfgC at CF
  unfold cfgC at CK
  simp only at CF
  show Calls Tryz.prog 31 #[.agg #[.int .i64 (V : Int), .int .i64 (D : Int), .int .i64 (Hd : Int), .int .i64 (H : Int), .int .i64 (L : Int)], .agg W.cells, .agg #[.slice ta n tz, .slice ka kn kz, .slice va vn vz], .int .i64 tok] w _
  have siz : W.cells.size = 8 := rfl
  generalize hws : W.cells = ws at *
  have X0 := blk_new w 23 #[.int .i64 (V : Int), .int .i64 (D : Int), .int .i64 (Hd : Int), .int .i64 (H : Int), .int .i64 (L : Int)]
  have B0 : Below w.heap.size w (w.alloc (.cells #[.int .i64 (V : Int), .int .i64 (D : Int), .int .i64 (Hd : Int), .int .i64 (H : Int), .int .i64 (L : Int)] 23)) := (Below.refl _ _).alloc (Nat.le_refl _) _
  have s0 : (w.alloc (.cells #[.int .i64 (V : Int), .int .i64 (D : Int), .int .i64 (Hd : Int), .int .i64 (H : Int), .int .i64 (L : Int)] 23)).heap.size = w.heap.size + 1 := by simp
  generalize hw0 : w.alloc (.cells #[.int .i64 (V : Int), .int .i64 (D : Int), .int .i64 (Hd : Int), .int .i64 (H : Int), .int .i64 (L : Int)] 23) = w0 at *
  have X1 := blk_new w0 29 ws
  have B1 : Below w0.heap.size w0 (w0.alloc (.cells ws 29)) := (Below.refl _ _).alloc (Nat.le_refl _) _
  have s1 : (w0.alloc (.cells ws 29)).heap.size = w0.heap.size + 1 := by simp
  rw [s0] at X1 s1
  generalize hw1 : w0.alloc (.cells ws 29) = w1 at *
  have X2 := blk_new w1 58 #[.slice ta n tz, .slice ka kn kz, .slice va vn vz]
  have B2 : Below w1.heap.size w1 (w1.alloc (.cells #[.slice ta n tz, .slice ka kn kz, .slice va vn vz] 58)) := (Below.refl _ _).alloc (Nat.le_refl _) _
  have s2 : (w1.alloc (.cells #[.slice ta n tz, .slice ka kn kz, .slice va vn vz] 58)).heap.size = w1.heap.size + 1 := by simp
  rw [s1] at X2 s2
  generalize hw2 : w1.alloc (.cells #[.slice ta n tz, .slice ka kn kz, .slice va vn vz] 58) = w2 at *
  have X3 := blk_new w2 58 #[.slice none 0 0, .slice none 0 0, .slice none 0 0]
  have B3 : Below w2.heap.size w2 (w2.alloc (.cells #[.slice none 0 0, .slice none 0 0, .slice none 0 0] 58)) := (Below.refl _ _).alloc (Nat.le_refl _) _
  have s3 : (w2.alloc (.cells #[.slice none 0 0, .slice none 0 0, .slice none 0 0] 58)).heap.size = w2.heap.size + 1 := by simp
  rw [s2] at X3 s3
  generalize hw3 : w2.alloc (.cells #[.slice none 0 0, .slice none 0 0, .slice none 0 0] 58) = w3 at *
  replace X0 := ((X0.below B1).below B2).below B3
  replace X1 := (X1.below B2).below B3
  replace X2 := X2.below B3
  replace B3 := below_then (below_then (below_then B0 B1) B2) B3
  have hn : (128 : Int) ≤ (n : Int) := by omega
  have a0 : w3.cell? ⟨w.heap.size, 0, none⟩ = some (.int .i64 (V : Int)) := X0.cell 0 rfl
  have a1 : w3.cell? ⟨w.heap.size, 1, none⟩ = some (.int .i64 (D : Int)) := X0.cell 1 rfl
  have a2 : w3.cell? ⟨w.heap.size, 2, none⟩ = some (.int .i64 (Hd : Int)) := X0.cell 2 rfl
  have a3 : w3.cell? ⟨w.heap.size, 3, none⟩ = some (.int .i64 (H : Int)) := X0.cell 3 rfl
  have a4 : w3.cell? ⟨w.heap.size, 4, none⟩ = some (.int .i64 (L : Int)) := X0.cell 4 rfl
  go_enter Tryz.func31, Tryz.ntmps31
  go_wp2_with (refine wpList_load_row rfl 29 _ rfl (w.heap.size + 1) rfl 29 ws (0, 0) _ X1 Tryz.underlying29 rfl (by rw [siz]; exact Tryz.infoW) ?_)
  refine (CK _ B3).mono ?_
  rintro e w4 ⟨rfl, B4⟩
  replace X0 := X0.below B4
  replace X1 := X1.below B4
  replace X2 := X2.below B4
  replace X3 := X3.below B4
  have D4 := below_then B3 B4
  clear a0 a1 a2 a3 a4 B3 B4 CK hw0 hw1 hw2 hw3 B0 B1 B2 s0 s1 s2 s3
  have a0 : w4.cell? ⟨w.heap.size, 0, none⟩ = some (.int .i64 (V : Int)) := X0.cell 0 rfl
  have a1 : w4.cell? ⟨w.heap.size, 1, none⟩ = some (.int .i64 (D : Int)) := X0.cell 1 rfl
  have a2 : w4.cell? ⟨w.heap.size, 2, none⟩ = some (.int .i64 (Hd : Int)) := X0.cell 2 rfl
  have a3 : w4.cell? ⟨w.heap.size, 3, none⟩ = some (.int .i64 (H : Int)) := X0.cell 3 rfl
  have a4 : w4.cell? ⟨w.heap.size, 4, none⟩ = some (.int .i64 (L : Int)) := X0.cell 4 rfl
  have b0 : w4.cell? ⟨w.heap.size + 1 + 1, 0, none⟩ = some (.slice ta n tz) := X2.cell 0 rfl
  have b1 : w4.cell? ⟨w.heap.size + 1 + 1, 1, none⟩ = some (.slice ka kn kz) := X2.cell 1 rfl
  have b2 : w4.cell? ⟨w.heap.size + 1 + 1, 2, none⟩ = some (.slice va vn vz) := X2.cell 2 rfl
  go_wp2_with fail
  refine (CF _ D4).mono ?_
  rintro e w5 ⟨rfl, B5⟩
  replace X0 := X0.below B5
  replace X1 := X1.below B5
  replace X2 := X2.below B5
  replace X3 := X3.below B5
  have D5 := below_then D4 B5
  clear a0 a1 a2 a3 a4 b0 b1 b2 D4 B5 CF
  have a0 : w5.cell? ⟨w.heap.size, 0, none⟩ = some (.int .i64 (V : Int)) := X0.cell 0 rfl
  have a1 : w5.cell? ⟨w.heap.size, 1, none⟩ = some (.int .i64 (D : Int)) := X0.cell 1 rfl
  have a2 : w5.cell? ⟨w.heap.size, 2, none⟩ = some (.int .i64 (Hd : Int)) := X0.cell 2 rfl
  have a3 : w5.cell? ⟨w.heap.size, 3, none⟩ = some (.int .i64 (H : Int)) := X0.cell 3 rfl
  have a4 : w5.cell? ⟨w.heap.size, 4, none⟩ = some (.int .i64 (L : Int)) := X0.cell 4 rfl
  have b0 : w5.cell? ⟨w.heap.size + 1 + 1, 0, none⟩ = some (.slice ta n tz) := X2.cell 0 rfl
  have b1 : w5.cell? ⟨w.heap.size + 1 + 1, 1, none⟩ = some (.slice ka kn kz) := X2.cell 1 rfl
  have b2 : w5.cell? ⟨w.heap.size + 1 + 1, 2, none⟩ = some (.slice va vn vz) := X2.cell 2 rfl
  have hall : Array.all (#[.slice none 0 0, .slice none 0 0, .slice none 0 0] : Array Value) (fun v => v.oneCell') = true := by simp [Value.oneCell']
  go_wp2_with (refine wpList_store_row rfl 58 _ _ rfl (w.heap.size + 1 + 1 + 1) #[.slice none 0 0, .slice none 0 0, .slice none 0 0] rfl rfl 58 _ X3 Tryz.infoV rfl hall ?_)
  refine bodyPost_ret (results_blk3 rfl _ _ (w.heap.size + 1 + 1 + 1) _ rfl (load_v (X3.row _) rfl)) rfl ?_
  exact ⟨rfl, below_setRow D5 (by omega) _⟩
set_option maxRecDepth 100000 in
set_option maxHeartbeats 800000 in
theorem feed_tok (V D Hd H L : Nat) (W : Wt) (bs : List Bk) (M : Mdl) (v : VwV) (X : Vw) (tok : Int) (w : World) (hl : X.T.length ≤ 127) (hb : tokB V tok = false) (hG : Good w V D Hd H L W bs M) (hv : VwAt w v X) (hf : VwFit V D L X) :
   Calls Tryz.prog 31 #[.agg (cfgC V D Hd H L), .agg W.cells, .agg v.cells, .int .i64 tok] w fun e w' => e = .returned (.tuple #[.agg noV, .slice none 0 0, .int .i64 7]) ∧ Below w.heap.size w w' := by
  obtain ⟨q1, q2, q3, q4, q5, q6, q7, q8, q9, q10⟩ := shape_ok hG.shape
  have hlen := hv.t.row.len
  have most := hf.most
  have CK := fun (wv : World) (hb : Below w.heap.size w wv) => check_good (hG.below hb)
  have CF := fun (wv : World) (hb : Below w.heap.size w wv) => sfits_ok V D Hd H L v X wv (hv.below hb) hf (by omega)
  have CI := fun (wv : World) => isToken_any V D Hd H L tok wv
  obtain ⟨⟨ta, n, tz⟩, ⟨ka, kn, kz⟩, ⟨va, vn, vz⟩⟩ := v
  simp only at hlen
  unfold VwV.cells Sl.v cfgC at CF
  unfold cfgC at CK CI
  simp only at CF
  show Calls Tryz.prog 31 #[.agg #[.int .i64 (V : Int), .int .i64 (D : Int), .int .i64 (Hd : Int), .int .i64 (H : Int), .int .i64 (L : Int)], .agg W.cells, .agg #[.slice ta n tz, .slice ka kn kz, .slice va vn vz], .int .i64 tok] w _
  have siz : W.cells.size = 8 := rfl
  generalize hws : W.cells = ws at *
  have X0 := blk_new w 23 #[.int .i64 (V : Int), .int .i64 (D : Int), .int .i64 (Hd : Int), .int .i64 (H : Int), .int .i64 (L : Int)]
  have B0 : Below w.heap.size w (w.alloc (.cells #[.int .i64 (V : Int), .int .i64 (D : Int), .int .i64 (Hd : Int), .int .i64 (H : Int), .int .i64 (L : Int)] 23)) := (Below.refl _ _).alloc (Nat.le_refl _) _
  have s0 : (w.alloc (.cells #[.int .i64 (V : Int), .int .i64 (D : Int), .int .i64 (Hd : Int), .int .i64 (H : Int), .int .i64 (L : Int)] 23)).heap.size = w.heap.size + 1 := by simp
  generalize hw0 : w.alloc (.cells #[.int .i64 (V : Int), .int .i64 (D : Int), .int .i64 (Hd : Int), .int .i64 (H : Int), .int .i64 (L : Int)] 23) = w0 at *
  have X1 := blk_new w0 29 ws
  have B1 : Below w0.heap.size w0 (w0.alloc (.cells ws 29)) := (Below.refl _ _).alloc (Nat.le_refl _) _
  have s1 : (w0.alloc (.cells ws 29)).heap.size = w0.heap.size + 1 := by simp
  rw [s0] at X1 s1
  generalize hw1 : w0.alloc (.cells ws 29) = w1 at *
  have X2 := blk_new w1 58 #[.slice ta n tz, .slice ka kn kz, .slice va vn vz]
  have B2 : Below w1.heap.size w1 (w1.alloc (.cells #[.slice ta n tz, .slice ka kn kz, .slice va vn vz] 58)) := (Below.refl _ _).alloc (Nat.le_refl _) _
  have s2 : (w1.alloc (.cells #[.slice ta n tz, .slice ka kn kz, .slice va vn vz] 58)).heap.size = w1.heap.size + 1 := by simp
  rw [s1] at X2 s2
  generalize hw2 : w1.alloc (.cells #[.slice ta n tz, .slice ka kn kz, .slice va vn vz] 58) = w2 at *
  have X3 := blk_new w2 58 #[.slice none 0 0, .slice none 0 0, .slice none 0 0]
  have B3 : Below w2.heap.size w2 (w2.alloc (.cells #[.slice none 0 0, .slice none 0 0, .slice none 0 0] 58)) := (Below.refl _ _).alloc (Nat.le_refl _) _
  have s3 : (w2.alloc (.cells #[.slice none 0 0, .slice none 0 0, .slice none 0 0] 58)).heap.size = w2.heap.size + 1 := by simp
  rw [s2] at X3 s3
  generalize hw3 : w2.alloc (.cells #[.slice none 0 0, .slice none 0 0, .slice none 0 0] 58) = w3 at *
  replace X0 := ((X0.below B1).below B2).below B3
  replace X1 := (X1.below B2).below B3
  replace X2 := X2.below B3
  replace B3 := below_then (below_then (below_then B0 B1) B2) B3
  have hn : ¬ (128 ≤ (n : Int)) := by omega
  have a0 : w3.cell? ⟨w.heap.size, 0, none⟩ = some (.int .i64 (V : Int)) := X0.cell 0 rfl
  have a1 : w3.cell? ⟨w.heap.size, 1, none⟩ = some (.int .i64 (D : Int)) := X0.cell 1 rfl
  have a2 : w3.cell? ⟨w.heap.size, 2, none⟩ = some (.int .i64 (Hd : Int)) := X0.cell 2 rfl
  have a3 : w3.cell? ⟨w.heap.size, 3, none⟩ = some (.int .i64 (H : Int)) := X0.cell 3 rfl
  have a4 : w3.cell? ⟨w.heap.size, 4, none⟩ = some (.int .i64 (L : Int)) := X0.cell 4 rfl
  go_enter Tryz.func31, Tryz.ntmps31
  go_wp2_with (refine wpList_load_row rfl 29 _ rfl (w.heap.size + 1) rfl 29 ws (0, 0) _ X1 Tryz.underlying29 rfl (by rw [siz]; exact Tryz.infoW) ?_)
  refine (CK _ B3).mono ?_
  rintro e w4 ⟨rfl, B4⟩
  replace X0 := X0.below B4
  replace X1 := X1.below B4
  replace X2 := X2.below B4
  replace X3 := X3.below B4
  have D4 := below_then B3 B4
  clear a0 a1 a2 a3 a4 B3 B4 CK hw0 hw1 hw2 hw3 B0 B1 B2 s0 s1 s2 s3
  have a0 : w4.cell? ⟨w.heap.size, 0, none⟩ = some (.int .i64 (V : Int)) := X0.cell 0 rfl
  have a1 : w4.cell? ⟨w.heap.size, 1, none⟩ = some (.int .i64 (D : Int)) := X0.cell 1 rfl
  have a2 : w4.cell? ⟨w.heap.size, 2, none⟩ = some (.int .i64 (Hd : Int)) := X0.cell 2 rfl
  have a3 : w4.cell? ⟨w.heap.size, 3, none⟩ = some (.int .i64 (H : Int)) := X0.cell 3 rfl
  have a4 : w4.cell? ⟨w.heap.size, 4, none⟩ = some (.int .i64 (L : Int)) := X0.cell 4 rfl
  have b0 : w4.cell? ⟨w.heap.size + 1 + 1, 0, none⟩ = some (.slice ta n tz) := X2.cell 0 rfl
  have b1 : w4.cell? ⟨w.heap.size + 1 + 1, 1, none⟩ = some (.slice ka kn kz) := X2.cell 1 rfl
  have b2 : w4.cell? ⟨w.heap.size + 1 + 1, 2, none⟩ = some (.slice va vn vz) := X2.cell 2 rfl
  go_wp2_with fail
  refine (CF _ D4).mono ?_
  rintro e w5 ⟨rfl, B5⟩
  replace X0 := X0.below B5
  replace X1 := X1.below B5
  replace X2 := X2.below B5
  replace X3 := X3.below B5
  have D5 := below_then D4 B5
  clear a0 a1 a2 a3 a4 b0 b1 b2 D4 B5 CF
  have a0 : w5.cell? ⟨w.heap.size, 0, none⟩ = some (.int .i64 (V : Int)) := X0.cell 0 rfl
  have a1 : w5.cell? ⟨w.heap.size, 1, none⟩ = some (.int .i64 (D : Int)) := X0.cell 1 rfl
  have a2 : w5.cell? ⟨w.heap.size, 2, none⟩ = some (.int .i64 (Hd : Int)) := X0.cell 2 rfl
  have a3 : w5.cell? ⟨w.heap.size, 3, none⟩ = some (.int .i64 (H : Int)) := X0.cell 3 rfl
  have a4 : w5.cell? ⟨w.heap.size, 4, none⟩ = some (.int .i64 (L : Int)) := X0.cell 4 rfl
  have b0 : w5.cell? ⟨w.heap.size + 1 + 1, 0, none⟩ = some (.slice ta n tz) := X2.cell 0 rfl
  have b1 : w5.cell? ⟨w.heap.size + 1 + 1, 1, none⟩ = some (.slice ka kn kz) := X2.cell 1 rfl
  have b2 : w5.cell? ⟨w.heap.size + 1 + 1, 2, none⟩ = some (.slice va vn vz) := X2.cell 2 rfl
  go_wp2_with fail
  refine (CI _).mono ?_
  rintro e w6 ⟨rfl, B6⟩
  rw [hb]
  replace X3 := X3.below B6
  have D6 := below_then D5 B6
  clear a0 a1 a2 a3 a4 b0 b1 b2 D5 CI
  have hall : Array.all (#[.slice none 0 0, .slice none 0 0, .slice none 0 0] : Array Value) (fun v => v.oneCell') = true := by simp [Value.oneCell']
  go_wp2_with (refine wpList_store_row rfl 58 _ _ rfl (w.heap.size + 1 + 1 + 1) #[.slice none 0 0, .slice none 0 0, .slice none 0 0] rfl rfl 58 _ X3 Tryz.infoV rfl hall ?_)
  refine bodyPost_ret (results_blk3 rfl _ _ (w.heap.size + 1 + 1 + 1) _ rfl (load_v (X3.row _) rfl)) rfl ?_
  exact ⟨rfl, below_setRow D6 (by omega) _⟩
set_option maxRecDepth 100000 in
set_option maxHeartbeats 800000 in
theorem feed_ok (V D Hd H L : Nat) (W : Wt) (bs : List Bk) (M : Mdl) (v : VwV) (X : Vw) (tok : Nat) (w : World) (hT : Tab w) (hl : X.T.length ≤ 127) (ht : tok < V) (hG : Good w V D Hd H L W bs M) (hv : VwAt w v X) (hf : VwFit V D L X) :
   Calls Tryz.prog 31 #[.agg (cfgC V D Hd H L), .agg W.cells, .agg v.cells, .int .i64 tok] w fun e w' => ∃ vv g, e = .returned (.tuple #[.agg (VwV.cells vv), .slice (some ⟨g, 0, none⟩) V V, .int .i64 0]) ∧ New w.heap.size w' (fun w => VwAt w vv (feedV M D H Hd L X tok)) ∧ Fresh w' w.heap.size g V V (likR M V D (feedX M D H Hd L X tok)) ∧ Below w.heap.size w w' := by
  obtain ⟨q1, q2, q3, q4, q5, q6, q7, q8, q9, q10⟩ := shape_ok hG.shape
  have hlen := hv.t.row.len
  have most := hf.most
  have CK := fun (wv : World) (hb : Below w.heap.size w wv) => check_good (hG.below hb)
  have CF := fun (wv : World) (hb : Below w.heap.size w wv) => sfits_ok V D Hd H L v X wv (hv.below hb) hf (by omega)
  have CI := fun (wv : World) => isToken_any V D Hd H L tok wv
  have htb : tokB V tok = true := by unfold tokB; exact decide_eq_true (by omega)
  have CG := fun (wv : World) (hb : Below w.heap.size w wv) => goOn_any V D Hd H L W bs M v X tok wv (hT.next hb) (hG.wt.below hb) (hv.below hb) hf hl ht (by omega) hG.len (by omega) (by omega) (by omega) (by omega) (by omega) (shape_mod hG.shape) (by omega)
  have CL := fun (wv : World) (hb : Below w.heap.size w wv) (xo : Option Addr) (cx : Nat) (Xr : List Int) (hX : RowAt wv xo D Xr) => likes_any V D H W bs M xo cx Xr wv (hG.wt.below hb) hX (by omega) (by omega)
  have hn0 : v.t.n ≤ 127 := by omega
  obtain ⟨⟨ta, n, tz⟩, ⟨ka, kn, kz⟩, ⟨va, vn, vz⟩⟩ := v
  simp only at hlen
  unfold VwV.cells Sl.v cfgC at CF
  unfold cfgC at CK CI CG
  unfold VwV.cells Sl.v at CG
  simp only at CG hn0
  simp only at CF
  show Calls Tryz.prog 31 #[.agg #[.int .i64 (V : Int), .int .i64 (D : Int), .int .i64 (Hd : Int), .int .i64 (H : Int), .int .i64 (L : Int)], .agg W.cells, .agg #[.slice ta n tz, .slice ka kn kz, .slice va vn vz], .int .i64 tok] w _
  have siz : W.cells.size = 8 := rfl
  generalize hws : W.cells = ws at *
  have X0 := blk_new w 23 #[.int .i64 (V : Int), .int .i64 (D : Int), .int .i64 (Hd : Int), .int .i64 (H : Int), .int .i64 (L : Int)]
  have B0 : Below w.heap.size w (w.alloc (.cells #[.int .i64 (V : Int), .int .i64 (D : Int), .int .i64 (Hd : Int), .int .i64 (H : Int), .int .i64 (L : Int)] 23)) := (Below.refl _ _).alloc (Nat.le_refl _) _
  have s0 : (w.alloc (.cells #[.int .i64 (V : Int), .int .i64 (D : Int), .int .i64 (Hd : Int), .int .i64 (H : Int), .int .i64 (L : Int)] 23)).heap.size = w.heap.size + 1 := by simp
  generalize hw0 : w.alloc (.cells #[.int .i64 (V : Int), .int .i64 (D : Int), .int .i64 (Hd : Int), .int .i64 (H : Int), .int .i64 (L : Int)] 23) = w0 at *
  have X1 := blk_new w0 29 ws
  have B1 : Below w0.heap.size w0 (w0.alloc (.cells ws 29)) := (Below.refl _ _).alloc (Nat.le_refl _) _
  have s1 : (w0.alloc (.cells ws 29)).heap.size = w0.heap.size + 1 := by simp
  rw [s0] at X1 s1
  generalize hw1 : w0.alloc (.cells ws 29) = w1 at *
  have X2 := blk_new w1 58 #[.slice ta n tz, .slice ka kn kz, .slice va vn vz]
  have B2 : Below w1.heap.size w1 (w1.alloc (.cells #[.slice ta n tz, .slice ka kn kz, .slice va vn vz] 58)) := (Below.refl _ _).alloc (Nat.le_refl _) _
  have s2 : (w1.alloc (.cells #[.slice ta n tz, .slice ka kn kz, .slice va vn vz] 58)).heap.size = w1.heap.size + 1 := by simp
  rw [s1] at X2 s2
  generalize hw2 : w1.alloc (.cells #[.slice ta n tz, .slice ka kn kz, .slice va vn vz] 58) = w2 at *
  have X3 := blk_new w2 58 #[.slice none 0 0, .slice none 0 0, .slice none 0 0]
  have B3 : Below w2.heap.size w2 (w2.alloc (.cells #[.slice none 0 0, .slice none 0 0, .slice none 0 0] 58)) := (Below.refl _ _).alloc (Nat.le_refl _) _
  have s3 : (w2.alloc (.cells #[.slice none 0 0, .slice none 0 0, .slice none 0 0] 58)).heap.size = w2.heap.size + 1 := by simp
  rw [s2] at X3 s3
  generalize hw3 : w2.alloc (.cells #[.slice none 0 0, .slice none 0 0, .slice none 0 0] 58) = w3 at *
  replace X0 := ((X0.below B1).below B2).below B3
  replace X1 := (X1.below B2).below B3
  replace X2 := X2.below B3
  replace B3 := below_then (below_then (below_then B0 B1) B2) B3
  have hn : ¬ (128 ≤ (n : Int)) := by omega
  have a0 : w3.cell? ⟨w.heap.size, 0, none⟩ = some (.int .i64 (V : Int)) := X0.cell 0 rfl
  have a1 : w3.cell? ⟨w.heap.size, 1, none⟩ = some (.int .i64 (D : Int)) := X0.cell 1 rfl
  have a2 : w3.cell? ⟨w.heap.size, 2, none⟩ = some (.int .i64 (Hd : Int)) := X0.cell 2 rfl
  have a3 : w3.cell? ⟨w.heap.size, 3, none⟩ = some (.int .i64 (H : Int)) := X0.cell 3 rfl
  have a4 : w3.cell? ⟨w.heap.size, 4, none⟩ = some (.int .i64 (L : Int)) := X0.cell 4 rfl
  go_enter Tryz.func31, Tryz.ntmps31
  go_wp2_with (refine wpList_load_row rfl 29 _ rfl (w.heap.size + 1) rfl 29 ws (0, 0) _ X1 Tryz.underlying29 rfl (by rw [siz]; exact Tryz.infoW) ?_)
  refine (CK _ B3).mono ?_
  rintro e w4 ⟨rfl, B4⟩
  replace X0 := X0.below B4
  replace X1 := X1.below B4
  replace X2 := X2.below B4
  replace X3 := X3.below B4
  have D4 := below_then B3 B4
  clear a0 a1 a2 a3 a4 B3 B4 CK hw0 hw1 hw2 hw3 B0 B1 B2 s0 s1 s2 s3
  have a0 : w4.cell? ⟨w.heap.size, 0, none⟩ = some (.int .i64 (V : Int)) := X0.cell 0 rfl
  have a1 : w4.cell? ⟨w.heap.size, 1, none⟩ = some (.int .i64 (D : Int)) := X0.cell 1 rfl
  have a2 : w4.cell? ⟨w.heap.size, 2, none⟩ = some (.int .i64 (Hd : Int)) := X0.cell 2 rfl
  have a3 : w4.cell? ⟨w.heap.size, 3, none⟩ = some (.int .i64 (H : Int)) := X0.cell 3 rfl
  have a4 : w4.cell? ⟨w.heap.size, 4, none⟩ = some (.int .i64 (L : Int)) := X0.cell 4 rfl
  have b0 : w4.cell? ⟨w.heap.size + 1 + 1, 0, none⟩ = some (.slice ta n tz) := X2.cell 0 rfl
  have b1 : w4.cell? ⟨w.heap.size + 1 + 1, 1, none⟩ = some (.slice ka kn kz) := X2.cell 1 rfl
  have b2 : w4.cell? ⟨w.heap.size + 1 + 1, 2, none⟩ = some (.slice va vn vz) := X2.cell 2 rfl
  go_wp2_with fail
  refine (CF _ D4).mono ?_
  rintro e w5 ⟨rfl, B5⟩
  replace X0 := X0.below B5
  replace X1 := X1.below B5
  replace X2 := X2.below B5
  replace X3 := X3.below B5
  have D5 := below_then D4 B5
  clear a0 a1 a2 a3 a4 b0 b1 b2 D4 B5 CF
  have a0 : w5.cell? ⟨w.heap.size, 0, none⟩ = some (.int .i64 (V : Int)) := X0.cell 0 rfl
  have a1 : w5.cell? ⟨w.heap.size, 1, none⟩ = some (.int .i64 (D : Int)) := X0.cell 1 rfl
  have a2 : w5.cell? ⟨w.heap.size, 2, none⟩ = some (.int .i64 (Hd : Int)) := X0.cell 2 rfl
  have a3 : w5.cell? ⟨w.heap.size, 3, none⟩ = some (.int .i64 (H : Int)) := X0.cell 3 rfl
  have a4 : w5.cell? ⟨w.heap.size, 4, none⟩ = some (.int .i64 (L : Int)) := X0.cell 4 rfl
  have b0 : w5.cell? ⟨w.heap.size + 1 + 1, 0, none⟩ = some (.slice ta n tz) := X2.cell 0 rfl
  have b1 : w5.cell? ⟨w.heap.size + 1 + 1, 1, none⟩ = some (.slice ka kn kz) := X2.cell 1 rfl
  have b2 : w5.cell? ⟨w.heap.size + 1 + 1, 2, none⟩ = some (.slice va vn vz) := X2.cell 2 rfl
  go_wp2_with fail
  refine (CI _).mono ?_
  rintro e w6 ⟨rfl, B6⟩
  rw [htb]
  replace X0 := X0.below B6
  replace X1 := X1.below B6
  replace X2 := X2.below B6
  replace X3 := X3.below B6
  have D6 := below_then D5 B6
  clear a0 a1 a2 a3 a4 b0 b1 b2 D5 CI B6
  have a0 : w6.cell? ⟨w.heap.size, 0, none⟩ = some (.int .i64 (V : Int)) := X0.cell 0 rfl
  have a1 : w6.cell? ⟨w.heap.size, 1, none⟩ = some (.int .i64 (D : Int)) := X0.cell 1 rfl
  have a2 : w6.cell? ⟨w.heap.size, 2, none⟩ = some (.int .i64 (Hd : Int)) := X0.cell 2 rfl
  have a3 : w6.cell? ⟨w.heap.size, 3, none⟩ = some (.int .i64 (H : Int)) := X0.cell 3 rfl
  have a4 : w6.cell? ⟨w.heap.size, 4, none⟩ = some (.int .i64 (L : Int)) := X0.cell 4 rfl
  have b0 : w6.cell? ⟨w.heap.size + 1 + 1, 0, none⟩ = some (.slice ta n tz) := X2.cell 0 rfl
  have b1 : w6.cell? ⟨w.heap.size + 1 + 1, 1, none⟩ = some (.slice ka kn kz) := X2.cell 1 rfl
  have b2 : w6.cell? ⟨w.heap.size + 1 + 1, 2, none⟩ = some (.slice va vn vz) := X2.cell 2 rfl
  go_wp2_with (refine wpList_load_row rfl 29 _ rfl (w.heap.size + 1) rfl 29 ws (0, 0) _ X1 Tryz.underlying29 rfl (by rw [siz]; exact Tryz.infoW) ?_)
  refine (CG _ D6).mono ?_
  rintro e w7 ⟨vv, gx, cx, rfl, N7, F7, B7⟩
  obtain ⟨⟨ta2, n2, tz2⟩, ⟨ka2, kn2, kz2⟩, ⟨va2, vn2, vz2⟩⟩ := vv
  have z6 := X3.lt
  replace X1 := X1.below B7
  replace X3 := X3.below B7
  have s6 := D6.size
  have D7 := below_then D6 B7
  clear a0 a1 a2 a3 a4 b0 b1 b2 CG X0 X2
  have N7' := N7
  replace F7 := F7.mono s6
  have XA := blk_new w7 58 #[.slice none 0 0, .slice none 0 0, .slice none 0 0]
  have BA : Below w7.heap.size w7 (w7.alloc (.cells #[.slice none 0 0, .slice none 0 0, .slice none 0 0] 58)) := (Below.refl _ _).alloc (Nat.le_refl _) _
  generalize hwa : w7.alloc (.cells #[.slice none 0 0, .slice none 0 0, .slice none 0 0] 58) = wa at *
  have XB := XA.row #[.slice ta2 n2 tz2, .slice ka2 kn2 kz2, .slice va2 vn2 vz2]
  have BB := below_setRow BA (Nat.le_refl _) #[.slice ta2 n2 tz2, .slice ka2 kn2 kz2, .slice va2 vn2 vz2]
  generalize hwb : wa.setRow w7.heap.size #[.slice ta2 n2 tz2, .slice ka2 kn2 kz2, .slice va2 vn2 vz2] = wb at *
  have hall : Array.all (#[.slice ta2 n2 tz2, .slice ka2 kn2 kz2, .slice va2 vn2 vz2] : Array Value) (fun v => v.oneCell') = true := by simp [Value.oneCell']
  have z3 := X3.lt
  replace X1 := (X1.below BB).below ((Below.refl _ _).drew)
  replace X3 := (X3.below BB).below ((Below.refl _ _).drew)
  replace N7' := (N7'.below BB).below ((Below.refl _ _).drew)
  replace F7 := (F7.below BB).drew
  have DB := (below_then D7 BB).drew
  go_wp2_with (refine wpList_store_row rfl 58 _ _ rfl w7.heap.size #[.slice ta2 n2 tz2, .slice ka2 kn2 kz2, .slice va2 vn2 vz2] rfl rfl 58 _ XA Tryz.infoV rfl hall ?_; rw [hwb])
  replace XB := XB.below ((Below.refl _ _).drew)
  clear hwa hwb XA BA
  refine wp_region_held_drew (S := fun w' => Blk w' w7.heap.size 58 #[.slice ta2 n2 tz2, .slice ka2 kn2 kz2, .slice va2 vn2 vz2] ∧ Blk w' (w.heap.size + 1) 29 ws) (by kernel_rfl) (⟨XB, X1⟩) (fun hHeld => ?_)
  refine wpAnyH_take (i := 0) (v := (.agg #[.slice ta2 n2 tz2, .slice ka2 kn2 kz2, .slice va2 vn2 vz2])) rfl (by kernel_rfl) (by kernel_rfl) (by kernel_rfl) (fun _ _ _ h => h) (Or.inl ⟨by rfl, ?_⟩) (by assumption) ?_
  · intro w' hSw
    exact yield_row 58 _ rfl w7.heap.size rfl _ (load_v hSw.1 rfl)
  simp only [List.getElem_toArray, List.getElem_cons_zero, Act.put, List.setIfInBounds_toArray, List.set_cons_zero, List.set_cons_succ]
  refine wpAnyH_take (i := 1) (v := (.agg ws)) rfl (by kernel_rfl) (by kernel_rfl) (by kernel_rfl) (fun _ _ _ h => h) (Or.inl ⟨by rfl, ?_⟩) (by assumption) ?_
  · intro w' hSw
    exact yield_row 29 _ rfl (w.heap.size + 1) rfl ws (load_w hSw.2 siz)
  simp only [List.getElem_toArray, List.getElem_cons_succ, List.getElem_cons_zero, Act.put, List.setIfInBounds_toArray, List.set_cons_zero, List.set_cons_succ]
  refine wpAnyH_take (i := 2) (v := (.slice (some ⟨gx, 0, none⟩) D cx)) rfl (by kernel_rfl) (by kernel_rfl) (by kernel_rfl) (fun _ _ _ h => h) (Or.inl ⟨by rfl, ?_⟩) (by assumption) ?_
  · intro w' hSw
    go_simp
  simp only [List.getElem_toArray, List.getElem_cons_succ, List.getElem_cons_zero, Act.put, List.setIfInBounds_toArray, List.set_cons_zero, List.set_cons_succ]
  refine wpAnyH_ready (rs := [3]) (by kernel_rfl) (by simp) ?_
  refine AllReadyH.cons rfl (fun Kc hKc => ?_) AllReadyH.nil
  simp only [List.getElem_toArray, List.getElem_cons_succ, List.getElem_cons_zero]
  rw [if_pos (by rfl)]
  go_wp2_with fail
  refine (CL _ DB _ _ _ F7.rowAt).mono ?_
  rintro e wd ⟨gl, rfl, FL, BL⟩
  replace XB := XB.below BL
  replace X1 := X1.below BL
  replace X3 := X3.below BL
  replace N7' := N7'.below BL
  have sB := DB.size
  replace FL := FL.mono sB
  have DL := below_then DB BL
  go_wp2_with fail
  refine hKc.out _ _ (⟨XB, X1⟩) (fun hHeld => ?_)
  clear hKc Kc
  refine wpAnyH_ready (rs := [4]) (by kernel_rfl) (by simp) ?_
  refine AllReadyH.cons rfl (fun Kc hKc => ?_) AllReadyH.nil
  simp only [List.getElem_toArray, List.getElem_cons_succ, List.getElem_cons_zero]
  rw [if_pos (by rfl)]
  refine wp_store_row 58 _ _ rfl (w.heap.size + 1 + 1 + 1) #[.slice ta2 n2 tz2, .slice ka2 kn2 kz2, .slice va2 vn2 vz2] rfl rfl 58 _ X3 Tryz.infoV rfl hall ?_
  have so : ∀ b, b ≠ w.heap.size + 1 + 1 + 1 → (wd.setRow (w.heap.size + 1 + 1 + 1) #[.slice ta2 n2 tz2, .slice ka2 kn2 kz2, .slice va2 vn2 vz2]).heap[b]? = wd.heap[b]? := fun b hb => setRow_other _ _ _ _ hb
  refine hKc.out _ _ (⟨Blk.of_block XB (so _ (by omega)), Blk.of_block X1 (so _ (by omega))⟩) (fun hHeld => ?_)
  clear hKc Kc
  refine wpAnyH_take (i := 5) (v := (.slice (some ⟨gl, 0, none⟩) V V)) rfl (by kernel_rfl) (by kernel_rfl) (by kernel_rfl) (fun _ _ _ h => h) (Or.inl ⟨by rfl, ?_⟩) (by assumption) ?_
  · intro w' hSw
    go_simp
  simp only [List.getElem_toArray, List.getElem_cons_succ, List.getElem_cons_zero, Act.put, List.setIfInBounds_toArray, List.set_cons_zero, List.set_cons_succ]
  refine wpAnyH_take (i := 6) (v := (.int .i64 0)) rfl (by kernel_rfl) (by kernel_rfl) (by kernel_rfl) (fun _ _ _ h => h) (Or.inl ⟨by rfl, ?_⟩) (by assumption) ?_
  · intro w' hSw
    go_simp
  simp only [List.getElem_toArray, List.getElem_cons_succ, List.getElem_cons_zero, Act.put, List.setIfInBounds_toArray, List.set_cons_zero, List.set_cons_succ]
  refine wpAnyH_done (by kernel_rfl) ?_ _
  go_wp2
  refine bodyPost_ret (results_blk3 rfl _ _ (w.heap.size + 1 + 1 + 1) _ rfl (load_v (X3.row _) rfl)) rfl ?_
  refine ⟨⟨⟨ta2, n2, tz2⟩, ⟨ka2, kn2, kz2⟩, ⟨va2, vn2, vz2⟩⟩, gl, rfl, ?_, ?_, below_setRow DL (by omega) _⟩
  · exact (N7'.row z6 _).mono s6
  · exact FL.of_block (so gl (FL.ne X3 (by decide)))
end Go.Proofs.YtahfdbblndphaaaGreatDoor

/- Package step: All: several tokens more. -/
namespace Go.Proofs.YtahfdbblndphaaaGreatDoor
open Go.ChangeShapes Go.WideShapes Go.ChangeAt Go.RowKit
/-- The view behind several tokens more, and what is liked behind the last one. -/
def feedAll (M : Mdl) (D H Hd L : Nat) (X : Vw) (A : List Int) : Vw := A.foldl (fun X t => feedV M D H Hd L X t.toNat) X
def likAt (M : Mdl) (V D H Hd L : Nat) (X : Vw) (A : List Int) : Nat → List Int
  | 0 => []
  | k + 1 => likR M V D (feedX M D H Hd L (feedAll M D H Hd L X (A.take k)) (el A k).toNat)
theorem feedAll_step (M : Mdl) (D H Hd L : Nat) (X : Vw) {A : List Int} {k : Nat} (h : k < A.length) : feedAll M D H Hd L X (A.take (k + 1)) = feedV M D H Hd L (feedAll M D H Hd L X (A.take k)) (el A k).toNat := by
  have e : A[k]? = some (el A k) := by unfold el; simp [List.getD_eq_getElem?_getD, List.getElem?_eq_getElem h]
  unfold feedAll
  rw [List.take_add_one, e, List.foldl_append]
  rfl
theorem feedAll_len (M : Mdl) (D H Hd L : Nat) (A : List Int) : ∀ X : Vw, (feedAll M D H Hd L X A).T.length = X.T.length + A.length := by
  induction A with
  | nil => intro X; rfl
  | cons a A ih =>
    intro X
    show (feedAll M D H Hd L (feedV M D H Hd L X a.toNat) A).T.length = _
    rw [ih]
    unfold feedV
    simp
    omega
theorem feedAll_fit {M : Mdl} {V D H Hd L : Nat} {A : List Int} : ∀ {X : Vw}, VwFit V D L X → A.all (tokB V) = true → X.T.length + A.length ≤ 128 → VwFit V D L (feedAll M D H Hd L X A) := by
  induction A with
  | nil => intro X hf _ _; exact hf
  | cons a A ih =>
    intro X hf ha hl
    simp only [List.all_cons, Bool.and_eq_true] at ha
    simp only [List.length_cons] at hl
    have ht : 0 ≤ a ∧ a < V := by have := ha.1; unfold tokB at this; simpa using this
    show VwFit V D L (feedAll M D H Hd L (feedV M D H Hd L X a.toNat) A)
    exact ih (fit_feed hf (by omega) (by omega)) ha.2 (by unfold feedV; simp; omega)
theorem vwv_one (v : VwV) : v.cells.all (·.oneCell') = true := by simp [VwV.cells, Sl.v, Value.oneCell']
theorem vwv_size (v : VwV) : v.cells.size = 3 := rfl
theorem prompt_ok {V : Int} {A : List Int} (h : promptN V A = 0) : 1 ≤ A.length ∧ A.length ≤ 128 ∧ A.all (tokB V) = true := by
  unfold promptN at h
  split at h
  · omega
  · split at h
    · omega
    · split at h
      · rename_i h1 h2 h3; exact ⟨by omega, by omega, h3⟩
      · omega
set_option maxRecDepth 100000 in
set_option maxHeartbeats 1600000 in
theorem all_bad (V D Hd H L : Nat) (ws cv : Array Value) (ao : Option Addr) (n ca : Nat) (A : List Int) (w : World) (hA : IArg w ao n ca A) (hp : promptN V A ≠ 0) :
   Calls Tryz.prog 19 #[.agg (cfgC V D Hd H L), .agg ws, .agg cv, .slice ao n ca] w fun e w' => e = .returned (.tuple #[.agg noV, .slice none 0 0, .int .i64 (promptN V A)]) ∧ Below w.heap.size w w' := by
  have CP := fun (wv : World) (hb : Below w.heap.size w wv) => prompt_any V D Hd H L ao n ca A wv (hA.below hb)
  have hp' : (promptN V A == 0) = false := by simpa using hp
  generalize promptN V A = q at *
  unfold cfgC at *
  have X0 := blk_new w 23 #[.int .i64 (V : Int), .int .i64 (D : Int), .int .i64 (Hd : Int), .int .i64 (H : Int), .int .i64 (L : Int)]
  have B0 : Below w.heap.size w (w.alloc (.cells #[.int .i64 (V : Int), .int .i64 (D : Int), .int .i64 (Hd : Int), .int .i64 (H : Int), .int .i64 (L : Int)] 23)) := (Below.refl _ _).alloc (Nat.le_refl _) _
  have s0 : (w.alloc (.cells #[.int .i64 (V : Int), .int .i64 (D : Int), .int .i64 (Hd : Int), .int .i64 (H : Int), .int .i64 (L : Int)] 23)).heap.size = w.heap.size + 1 := by simp
  generalize hw0 : w.alloc (.cells #[.int .i64 (V : Int), .int .i64 (D : Int), .int .i64 (Hd : Int), .int .i64 (H : Int), .int .i64 (L : Int)] 23) = w0 at *
  have X1 := blk_new w0 29 ws
  have B1 : Below w0.heap.size w0 (w0.alloc (.cells ws 29)) := (Below.refl _ _).alloc (Nat.le_refl _) _
  have s1 : (w0.alloc (.cells ws 29)).heap.size = w0.heap.size + 1 := by simp
  rw [s0] at X1 s1
  generalize hw1 : w0.alloc (.cells ws 29) = w1 at *
  have X2 := blk_new w1 58 cv
  have B2 : Below w1.heap.size w1 (w1.alloc (.cells cv 58)) := (Below.refl _ _).alloc (Nat.le_refl _) _
  have s2 : (w1.alloc (.cells cv 58)).heap.size = w1.heap.size + 1 := by simp
  rw [s1] at X2 s2
  generalize hw2 : w1.alloc (.cells cv 58) = w2 at *
  have X3 := blk_new w2 58 #[.slice none 0 0, .slice none 0 0, .slice none 0 0]
  have B3 : Below w2.heap.size w2 (w2.alloc (.cells #[.slice none 0 0, .slice none 0 0, .slice none 0 0] 58)) := (Below.refl _ _).alloc (Nat.le_refl _) _
  have s3 : (w2.alloc (.cells #[.slice none 0 0, .slice none 0 0, .slice none 0 0] 58)).heap.size = w2.heap.size + 1 := by simp
  rw [s2] at X3 s3
  generalize hw3 : w2.alloc (.cells #[.slice none 0 0, .slice none 0 0, .slice none 0 0] 58) = w3 at *
  replace X0 := ((X0.below B1).below B2).below B3
  replace X1 := (X1.below B2).below B3
  replace X2 := X2.below B3
  replace B3 := below_then (below_then (below_then B0 B1) B2) B3
  have a0 : w3.cell? ⟨w.heap.size, 0, none⟩ = some (.int .i64 (V : Int)) := X0.cell 0 rfl
  have a1 : w3.cell? ⟨w.heap.size, 1, none⟩ = some (.int .i64 (D : Int)) := X0.cell 1 rfl
  have a2 : w3.cell? ⟨w.heap.size, 2, none⟩ = some (.int .i64 (Hd : Int)) := X0.cell 2 rfl
  have a3 : w3.cell? ⟨w.heap.size, 3, none⟩ = some (.int .i64 (H : Int)) := X0.cell 3 rfl
  have a4 : w3.cell? ⟨w.heap.size, 4, none⟩ = some (.int .i64 (L : Int)) := X0.cell 4 rfl
  go_enter Tryz.func19, Tryz.ntmps19
  go_wp2_with fail
  refine (CP _ B3).mono ?_
  rintro e w4 ⟨rfl, B4⟩
  replace X3 := X3.below B4
  have D4 := below_then B3 B4
  clear a0 a1 a2 a3 a4 B3 B4 CP hw0 hw1 hw2 hw3 B0 B1 B2 s0 s1 s2 s3
  have hall : Array.all (#[.slice none 0 0, .slice none 0 0, .slice none 0 0] : Array Value) (fun v => v.oneCell') = true := by simp [Value.oneCell']
  go_wp2_with (refine wpList_store_row rfl 58 _ _ rfl (w.heap.size + 1 + 1 + 1) #[.slice none 0 0, .slice none 0 0, .slice none 0 0] rfl rfl 58 _ X3 Tryz.infoV rfl hall ?_)
  refine bodyPost_ret (results_blk3 rfl _ _ (w.heap.size + 1 + 1 + 1) _ rfl (load_v (X3.row _) rfl)) rfl ?_
  exact ⟨rfl, below_setRow D4 (by omega) _⟩
/-- Within All: boxes, and the view behind k tokens. -/
structure AI (w wr : World) (V D H Hd L : Nat) (cfg ws : Array Value) (M : Mdl) (X : Vw) (A : List Int) (k : Nat) (vv : VwV) (lv : Value) : Prop where
  x0 : Blk wr w.heap.size 23 cfg
  x1 : Blk wr (w.heap.size + 1) 29 ws
  x2 : Blk wr (w.heap.size + 2) 58 vv.cells
  x3 : Blk wr (w.heap.size + 3) 58 #[.slice none 0 0, .slice none 0 0, .slice none 0 0]
  at_ : VwAt wr vv (feedAll M D H Hd L X (A.take k))
  new : 0 < k → New (w.heap.size + 4) wr (fun w => VwAt w vv (feedAll M D H Hd L X (A.take k))) ∧ ∃ g, lv = .slice (some ⟨g, 0, none⟩) V V ∧ Fresh wr (w.heap.size + 4) g V V (likAt M V D H Hd L X A k)
  kp : Below w.heap.size w wr
  sz : w.heap.size + 3 < wr.heap.size
set_option maxRecDepth 100000 in
set_option maxHeartbeats 800000 in
theorem all_ok (V D Hd H L : Nat) (W : Wt) (bs : List Bk) (M : Mdl) (v : VwV) (X : Vw) (ao : Option Addr) (n ca : Nat) (A : List Int) (w : World) (hT : Tab w) (hG : Good w V D Hd H L W bs M) (hv : VwAt w v X) (hf : VwFit V D L X) (hA : IArg w ao n ca A) (hp : promptN V A = 0) (hs : X.T.length + A.length ≤ 128) :
   Calls Tryz.prog 19 #[.agg (cfgC V D Hd H L), .agg W.cells, .agg v.cells, .slice ao n ca] w fun e w' => ∃ vv g, e = .returned (.tuple #[.agg (VwV.cells vv), .slice (some ⟨g, 0, none⟩) V V, .int .i64 0]) ∧ New w.heap.size w' (fun w => VwAt w vv (feedAll M D H Hd L X A)) ∧ Fresh w' w.heap.size g V V (likAt M V D H Hd L X A A.length) ∧ Below w.heap.size w w' := by
  obtain ⟨p1, p2, p3⟩ := prompt_ok hp
  have CP := fun (wv : World) (hb : Below w.heap.size w wv) => prompt_any V D Hd H L ao n ca A wv (hA.below hb)
  rw [hp] at CP
  have hl := hA.row.len
  have HT : Hid (∀ wv, Below w.heap.size w wv → Tab wv) := fun wv hb => hT.next hb
  have HG : Hid (∀ wv, Below w.heap.size w wv → Good wv V D Hd H L W bs M) := fun wv hb => hG.below hb
  have HA : Hid (∀ wv, Below w.heap.size w wv → IRowAt wv ao n A) := fun wv hb => hA.row.below hb
  have HF : Hid (∀ k, k ≤ A.length → VwFit V D L (feedAll M D H Hd L X (A.take k))) := fun k hk => feedAll_fit hf (by
    rw [List.all_eq_true] at p3 ⊢
    intro x hx
    exact p3 x (List.mem_of_mem_take hx)) (by rw [List.length_take]; omega)
  have HL : Hid (∀ k, k ≤ A.length → (feedAll M D H Hd L X (A.take k)).T.length = X.T.length + k) := fun k hk => by rw [feedAll_len, List.length_take]; omega
  have HS : Hid (∀ k, k < A.length → feedAll M D H Hd L X (A.take (k + 1)) = feedV M D H Hd L (feedAll M D H Hd L X (A.take k)) (el A k).toNat) := fun k hk => feedAll_step M D H Hd L X hk
  have HK : Hid (∀ k, k < A.length → 0 ≤ el A k ∧ el A k < V) := fun k hk => by have := all_el hk p3; unfold tokB at this; simpa using this
  have CF := fun (vv : VwV) (Y : Vw) (tok : Nat) (wv : World) (h1 : Tab wv) (h2 : Y.T.length ≤ 127) (h3 : tok < V) (h4 : Good wv V D Hd H L W bs M) (h5 : VwAt wv vv Y) (h6 : VwFit V D L Y) => feed_ok V D Hd H L W bs M vv Y tok wv h1 h2 h3 h4 h5 h6
  have hv0 : VwAt w v (feedAll M D H Hd L X (A.take 0)) := hv
  have siz : W.cells.size = 8 := rfl
  clear hT hG hA hf hv
  generalize hws : W.cells = ws at *
  have siv := vwv_size v
  unfold cfgC at CP CF ⊢
  generalize hcv : v.cells = cv at *
  have X0 := blk_new w 23 #[.int .i64 (V : Int), .int .i64 (D : Int), .int .i64 (Hd : Int), .int .i64 (H : Int), .int .i64 (L : Int)]
  have B0 : Below w.heap.size w (w.alloc (.cells #[.int .i64 (V : Int), .int .i64 (D : Int), .int .i64 (Hd : Int), .int .i64 (H : Int), .int .i64 (L : Int)] 23)) := (Below.refl _ _).alloc (Nat.le_refl _) _
  have s0 : (w.alloc (.cells #[.int .i64 (V : Int), .int .i64 (D : Int), .int .i64 (Hd : Int), .int .i64 (H : Int), .int .i64 (L : Int)] 23)).heap.size = w.heap.size + 1 := by simp
  generalize hw0 : w.alloc (.cells #[.int .i64 (V : Int), .int .i64 (D : Int), .int .i64 (Hd : Int), .int .i64 (H : Int), .int .i64 (L : Int)] 23) = w0 at *
  have X1 := blk_new w0 29 ws
  have B1 : Below w0.heap.size w0 (w0.alloc (.cells ws 29)) := (Below.refl _ _).alloc (Nat.le_refl _) _
  have s1 : (w0.alloc (.cells ws 29)).heap.size = w0.heap.size + 1 := by simp
  rw [s0] at X1 s1
  generalize hw1 : w0.alloc (.cells ws 29) = w1 at *
  have X2 := blk_new w1 58 cv
  have B2 : Below w1.heap.size w1 (w1.alloc (.cells cv 58)) := (Below.refl _ _).alloc (Nat.le_refl _) _
  have s2 : (w1.alloc (.cells cv 58)).heap.size = w1.heap.size + 1 := by simp
  rw [s1] at X2 s2
  generalize hw2 : w1.alloc (.cells cv 58) = w2 at *
  have X3 := blk_new w2 58 #[.slice none 0 0, .slice none 0 0, .slice none 0 0]
  have B3 : Below w2.heap.size w2 (w2.alloc (.cells #[.slice none 0 0, .slice none 0 0, .slice none 0 0] 58)) := (Below.refl _ _).alloc (Nat.le_refl _) _
  have s3 : (w2.alloc (.cells #[.slice none 0 0, .slice none 0 0, .slice none 0 0] 58)).heap.size = w2.heap.size + 1 := by simp
  rw [s2] at X3 s3
  generalize hw3 : w2.alloc (.cells #[.slice none 0 0, .slice none 0 0, .slice none 0 0] 58) = w3 at *
  replace X0 := ((X0.below B1).below B2).below B3
  replace X1 := (X1.below B2).below B3
  replace X2 := X2.below B3
  replace B3 := below_then (below_then (below_then B0 B1) B2) B3
  replace hv0 := hv0.below B3
  have a0 : w3.cell? ⟨w.heap.size, 0, none⟩ = some (.int .i64 (V : Int)) := X0.cell 0 rfl
  have a1 : w3.cell? ⟨w.heap.size, 1, none⟩ = some (.int .i64 (D : Int)) := X0.cell 1 rfl
  have a2 : w3.cell? ⟨w.heap.size, 2, none⟩ = some (.int .i64 (Hd : Int)) := X0.cell 2 rfl
  have a3 : w3.cell? ⟨w.heap.size, 3, none⟩ = some (.int .i64 (H : Int)) := X0.cell 3 rfl
  have a4 : w3.cell? ⟨w.heap.size, 4, none⟩ = some (.int .i64 (L : Int)) := X0.cell 4 rfl
  go_enter Tryz.func19, Tryz.ntmps19
  go_wp2_with fail
  refine (CP _ B3).mono ?_
  rintro e w4 ⟨rfl, B4⟩
  have z3 := X3.lt
  have G0 : AI w w4 V D H Hd L #[.int .i64 (V : Int), .int .i64 (D : Int), .int .i64 (Hd : Int), .int .i64 (H : Int), .int .i64 (L : Int)] ws M X A 0 v (.slice none 0 0) := ⟨X0.below B4, X1.below B4, by rw [hcv]; exact X2.below B4, X3.below B4, hv0.below B4, fun h => by omega, below_then B3 B4, Nat.lt_of_lt_of_le z3 B4.size⟩
  clear a0 a1 a2 a3 a4 B3 B4 CP hw0 hw1 hw2 hw3 B0 B1 B2 s0 s1 s2 s3 X0 X1 X2 X3 hv0 siv hcv z3
  go_wp2_with fail
  go_loopg [27, 12] n (fun r i s wr => ∃ (k : Nat) (vv : VwV), k ≤ n ∧ r = n - k ∧ i = .int .i64 k ∧ AI w wr V D H Hd L #[.int .i64 (V : Int), .int .i64 (D : Int), .int .i64 (Hd : Int), .int .i64 (H : Int), .int .i64 (L : Int)] ws M X A k vv s)
  case atStart => exact ⟨0, v, by omega, by omega, rfl, G0⟩
  case round =>
    obtain ⟨k, vv, hk, rfl, rfl, G⟩ := hrel
    clear G0
    by_cases hlt : k < n
    · have R1 := HA.out wr G.kp
      obtain ⟨b, o, rfl, hc⟩ := R1.cells (by omega)
      have ck := hc k hlt
      clear hc R1
      obtain ⟨t1, t2⟩ := HK.out k (by omega)
      have EV := HS.out k (by omega)
      have FV := HF.out k (by omega)
      have LV := HL.out k (by omega)
      have HLK : Hid (likAt M V D H Hd L X A (k + 1) = likR M V D (feedX M D H Hd L (feedAll M D H Hd L X (A.take k)) (el A k).toNat)) := rfl
      obtain ⟨tk, htk⟩ : ∃ tk : Nat, el A k = tk := ⟨(el A k).toNat, by omega⟩
      rw [htk] at ck t2 EV HLK
      rw [Int.toNat_natCast] at EV HLK
      clear htk t1
      have X0 := G.x0
      have X1 := G.x1
      have X2 := G.x2
      have X3 := G.x3
      have AT := G.at_
      have KP := G.kp
      have SZ := G.sz
      clear G
      have a0 : wr.cell? ⟨w.heap.size, 0, none⟩ = some (.int .i64 (V : Int)) := X0.cell 0 rfl
      have a1 : wr.cell? ⟨w.heap.size, 1, none⟩ = some (.int .i64 (D : Int)) := X0.cell 1 rfl
      have a2 : wr.cell? ⟨w.heap.size, 2, none⟩ = some (.int .i64 (Hd : Int)) := X0.cell 2 rfl
      have a3 : wr.cell? ⟨w.heap.size, 3, none⟩ = some (.int .i64 (H : Int)) := X0.cell 3 rfl
      have a4 : wr.cell? ⟨w.heap.size, 4, none⟩ = some (.int .i64 (L : Int)) := X0.cell 4 rfl
      have one := vwv_one vv
      have siv := vwv_size vv
      have CC := CF vv (feedAll M D H Hd L X (A.take k)) tk wr (HT.out _ KP) (by omega) (by omega) (HG.out _ KP) AT FV
      generalize vv.cells = cv at *
      have LVe : Hid ((feedAll M D H Hd L X (A.take k)).T.length = X.T.length + k) := LV
      clear LV AT
      go_wp2_with (first | (refine wpList_load_row rfl 29 _ rfl (w.heap.size + 1) rfl 29 ws (0, 0) _ X1 Tryz.underlying29 rfl (by rw [siz]; exact Tryz.infoW) ?_) | (refine wpList_load_row rfl 58 _ rfl (w.heap.size + 2) rfl 58 cv (0, 0) _ X2 Tryz.underlying58 rfl (by rw [siv]; exact Tryz.infoV) ?_))
      refine CC.mono ?_
      rintro e w7 ⟨v2, g, rfl, N7, F7, B7⟩
      rw [← EV] at N7
      rw [← HLK.out] at F7
      have one2 := vwv_one v2
      have siv2 := vwv_size v2
      have HC : Hid (∀ wv, Blk wv (w.heap.size + 2) 58 v2.cells → Blk wv (w.heap.size + 2) 58 v2.cells) := fun _ h => h
      generalize hc2 : v2.cells = cw at *
      replace X0 := X0.below B7
      replace X1 := X1.below B7
      replace X2 := X2.below B7
      replace X3 := X3.below B7
      have D7 := below_then KP B7
      have z7 := B7.size
      clear a0 a1 a2 a3 a4 CC
      have XA := blk_new w7 58 #[.slice none 0 0, .slice none 0 0, .slice none 0 0]
      have BA : Below w7.heap.size w7 (w7.alloc (.cells #[.slice none 0 0, .slice none 0 0, .slice none 0 0] 58)) := (Below.refl _ _).alloc (Nat.le_refl _) _
      generalize hwa : w7.alloc (.cells #[.slice none 0 0, .slice none 0 0, .slice none 0 0] 58) = wa at *
      have XB := XA.row cw
      have BB := below_setRow BA (Nat.le_refl _) cw
      generalize hwb : wa.setRow w7.heap.size cw = wb at *
      replace X0 := X0.below BB
      replace X1 := X1.below BB
      replace X2 := X2.below BB
      replace X3 := X3.below BB
      replace N7 := N7.below BB
      replace F7 := F7.below BB
      have DB := below_then D7 BB
      have zb := BB.size
      go_wp2_with (first | (refine wpList_store_row rfl 58 _ _ rfl w7.heap.size cw rfl rfl 58 _ XA (by rw [siv2]; exact Tryz.infoV) (by rw [siv2]; rfl) one2 ?_; rw [hwb]) | (refine wpList_load_row rfl 58 _ rfl w7.heap.size rfl 58 cw (0, 0) _ XB Tryz.underlying58 rfl (by rw [siv2]; exact Tryz.infoV) ?_) | (refine wpList_store_row rfl 58 _ _ rfl (w.heap.size + 2) cw rfl rfl 58 _ X2 (by rw [siv2]; exact Tryz.infoV) (by rw [siv, siv2]) one2 ?_))
      have so : ∀ b, b ≠ w.heap.size + 2 → (wb.setRow (w.heap.size + 2) cw).heap[b]? = wb.heap[b]? := fun b hb => setRow_other _ _ _ _ hb
      have N8 := N7.row (g := w.heap.size + 2) (by omega) cw
      go_roundg (n - (k + 1))
      case measure => omega
      case rel =>
        refine ⟨k + 1, v2, by omega, rfl, by go_num, ⟨Blk.of_block X0 (so _ (by omega)), Blk.of_block X1 (so _ (by omega)), ?_, Blk.of_block X3 (so _ (by omega)), N8.now, fun _ => ⟨N8.mono (by omega), g, rfl, (F7.of_block (so g (F7.ne X2 (by decide)))).mono (by omega)⟩, below_setRow DB (by omega) _, ?_⟩⟩
        · rw [hc2]; exact X2.row cw
        · have := DB.size
          show _ < (wb.setRow _ _).heap.size
          simp [World.setRow]
          omega
    · obtain rfl : k = n := by omega
      obtain ⟨N9, g, rfl, F9⟩ := G.new (by omega)
      rw [← hl, List.take_length] at N9
      rw [← hl] at F9
      have X2 := G.x2
      have X3 := G.x3
      have KP := G.kp
      clear G
      have one := vwv_one vv
      have siv := vwv_size vv
      generalize hc2 : vv.cells = cw at *
      go_wp2_with (first | (refine wpList_load_row rfl 58 _ rfl (w.heap.size + 2) rfl 58 cw (0, 0) _ X2 Tryz.underlying58 rfl (by rw [siv]; exact Tryz.infoV) ?_) | (refine wpList_store_row rfl 58 _ _ rfl (w.heap.size + 3) cw rfl rfl 58 _ X3 (by rw [siv]; exact Tryz.infoV) (by rw [siv]; rfl) one ?_))
      refine bodyPost_ret (results_blk3 rfl _ _ (w.heap.size + 3) _ rfl (load_v (X3.row _) siv)) rfl ?_
      refine ⟨vv, g, by rw [hc2]; rfl, (N9.row (by omega) _).mono (by omega), (F9.of_block (setRow_other _ _ _ _ (F9.ne X3 (by decide)))).mono (by omega), below_setRow KP (by omega) _⟩
end Go.Proofs.YtahfdbblndphaaaGreatDoor

/- Package greedy: requests, ends, and the token that is liked best. -/
namespace Go.Proofs.YtahfdbblndphaaaGreatDoor
open Go.ChangeShapes Go.WideShapes Go.ChangeAt Go.RowKit
/-- Is the last token the end? -/
def endB (A : List Int) : Bool := decide (0 < A.length) && decide (el A (A.length - 1) = 0)
def overB (A : List Int) (most : Int) : Bool := decide (most ≤ (A.length : Int)) || endB A
/-- The error's number of a request. -/
def askedN (V : Int) (A : List Int) (most : Int) : Int := if promptN V A ≠ 0 then promptN V A else if most < 1 then 1 else if 128 - (A.length : Int) < most then 2 else 0
theorem ends_any (ao : Option Addr) (n ca : Nat) (A : List Int) (w : World) (hA : IRowAt w ao n A) :
   Calls Tryz.prog 30 #[.slice ao n ca] w fun e w' => e = .returned (.bool (endB A)) ∧ w' = w := by
  have hl := hA.len
  have hm := hA.max
  have HE : Hid (endB A = (decide (0 < n) && decide (el A (n - 1) = 0))) := by show _ = _; unfold endB; rw [hl]
  generalize endB A = res at *
  by_cases h0 : n = 0
  · subst h0
    have HF : Hid (res = false) := by show _ = _; rw [HE.out]; simp
    clear HE
    go_enter Tryz.func30, Tryz.ntmps30
    go_wp2
    go_ret
    exact ⟨by rw [HF.out]; rfl, rfl⟩
  · obtain ⟨b, o, rfl, hc⟩ := hA.cells (by omega)
    obtain ⟨m, rfl⟩ : ∃ m, n = m + 1 := ⟨n - 1, by omega⟩
    have hc0 := hc m (by omega)
    have e1 : IntKind.i64.wrap (((m : Int) + 1) - 1) = (m : Int) := by rw [show ((m : Int) + 1) - 1 = m by omega]; exact wrap_in (by omega)
    have HE2 : Hid (res = decide (el A m = 0)) := by show _ = _; rw [HE.out, decide_eq_true (by omega), Bool.true_and]; rfl
    clear HE hc hl
    generalize el A m = x at *
    by_cases hx : x = 0
    · subst hx
      have HF : Hid (res = true) := by show _ = _; rw [HE2.out]; simp
      clear HE2
      go_enter Tryz.func30, Tryz.ntmps30
      go_wp2
      go_ret
      exact ⟨by rw [HF.out]; rfl, rfl⟩
    · have HF : Hid (res = false) := by show _ = _; rw [HE2.out, decide_eq_false hx]
      have hx' : (x == 0) = false := by simpa using hx
      clear HE2
      go_enter Tryz.func30, Tryz.ntmps30
      go_wp2
      go_ret
      exact ⟨by rw [HF.out]; rfl, rfl⟩
theorem over_any (ao : Option Addr) (n ca : Nat) (A : List Int) (most : Int) (w : World) (hA : IRowAt w ao n A) :
   Calls Tryz.prog 18 #[.slice ao n ca, .int .i64 most] w fun e w' => e = .returned (.bool (overB A most)) ∧ w' = w := by
  have hl := hA.len
  have hm := hA.max
  have C := ends_any ao n ca A w hA
  have HE : Hid (overB A most = (decide (most ≤ (n : Int)) || endB A)) := by show _ = _; unfold overB; rw [hl]
  generalize overB A most = res at *
  generalize endB A = xe at *
  by_cases h0 : most ≤ (n : Int)
  · have HF : Hid (res = true) := by show _ = _; rw [HE.out, decide_eq_true h0]; rfl
    clear HE
    go_enter Tryz.func18, Tryz.ntmps18
    go_wp2
    go_ret
    exact ⟨by rw [HF.out]; rfl, rfl⟩
  · have HF : Hid (res = xe) := by show _ = _; rw [HE.out, decide_eq_false h0]; rfl
    clear HE
    go_enter Tryz.func18, Tryz.ntmps18
    go_wp2_with (go_at_call 30; refine C.mono ?_; rintro e w1 ⟨rfl, rfl⟩)
    go_ret
    exact ⟨by rw [HF.out]; rfl, rfl⟩
theorem gnext_any (ao : Option Addr) (n ca : Nat) (A : List Int) (w : World) (hA : RowAt w ao n A) :
   Calls Tryz.prog 20 #[.slice ao n ca] w fun e w' => e = .returned (.int .i64 (amax A n)) ∧ w' = w := by
  go_enter Tryz.func20, Tryz.ntmps20
  go_wp2_with (go_at_call 32; refine (argmax_any _ _ _ _ _ hA).mono ?_; rintro e w1 ⟨rfl, rfl⟩)
  go_ret
  exact ⟨rfl, rfl⟩
theorem asked_any (V D Hd H L : Int) (ao : Option Addr) (n ca : Nat) (A : List Int) (most : Int) (w : World) (hA : IArg w ao n ca A) :
   Calls Tryz.prog 17 #[.agg (cfgC V D Hd H L), .slice ao n ca, .int .i64 most] w fun e w' => e = .returned (.int .i64 (askedN V A most)) ∧ Below w.heap.size w w' := by
  have hl := hA.row.len
  have X0 := blk_new w 23 (cfgC V D Hd H L)
  have B0 : Below w.heap.size w (w.alloc (.cells (cfgC V D Hd H L) 23)) := (Below.refl _ _).alloc (Nat.le_refl _) _
  have CP := fun (wv : World) (hb : Below w.heap.size w wv) => prompt_any V D Hd H L ao n ca A wv (hA.below hb)
  have HP : Hid (promptN V A = 0 → n ≤ 128) := fun h => by have := prompt_ok h; omega
  have HN : Hid (askedN V A most = if promptN V A ≠ 0 then promptN V A else if most < 1 then 1 else if 128 - (n : Int) < most then 2 else 0) := by show _ = _; unfold askedN; rw [hl]
  generalize askedN V A most = res at *
  generalize promptN V A = q at *
  unfold cfgC at *
  generalize hw0 : w.alloc (.cells #[.int .i64 V, .int .i64 D, .int .i64 Hd, .int .i64 H, .int .i64 L] 23) = w0 at *
  have a0 : w0.cell? ⟨w.heap.size, 0, none⟩ = some (.int .i64 V) := X0.cell 0 rfl
  have a1 : w0.cell? ⟨w.heap.size, 1, none⟩ = some (.int .i64 D) := X0.cell 1 rfl
  have a2 : w0.cell? ⟨w.heap.size, 2, none⟩ = some (.int .i64 Hd) := X0.cell 2 rfl
  have a3 : w0.cell? ⟨w.heap.size, 3, none⟩ = some (.int .i64 H) := X0.cell 3 rfl
  have a4 : w0.cell? ⟨w.heap.size, 4, none⟩ = some (.int .i64 L) := X0.cell 4 rfl
  clear hA
  go_enter Tryz.func17, Tryz.ntmps17
  go_wp2_with fail
  refine (CP _ B0).mono ?_
  rintro e w1 ⟨rfl, B1⟩
  have D1 := below_then B0 B1
  clear a0 a1 a2 a3 a4 hw0 CP
  by_cases hq : q = 0
  · subst hq
    have hn := HP.out rfl
    by_cases h1 : most < 1
    · have HF : Hid (res = 1) := by show _ = _; rw [HN.out, if_neg (by simp), if_pos h1]
      clear HN
      go_wp2
      go_ret
      exact ⟨ret_int HF.out.symm, D1⟩
    · have ew : IntKind.i64.wrap (128 - (n : Int)) = 128 - (n : Int) := wrap_in (by omega)
      by_cases h2 : 128 - (n : Int) < most
      · have HF : Hid (res = 2) := by show _ = _; rw [HN.out, if_neg (by simp), if_neg h1, if_pos h2]
        clear HN
        go_wp2
        go_ret
        exact ⟨ret_int HF.out.symm, D1⟩
      · have HF : Hid (res = 0) := by show _ = _; rw [HN.out, if_neg (by simp), if_neg h1, if_neg h2]
        clear HN
        go_wp2
        go_ret
        exact ⟨ret_int HF.out.symm, D1⟩
  · have HF : Hid (res = q) := by show _ = _; rw [HN.out, if_pos hq]
    have hq' : (q == 0) = false := by simpa using hq
    clear HN
    go_wp2
    go_ret
    exact ⟨ret_int HF.out.symm, D1⟩
theorem amax_pos (A : List Int) : ∀ k, 0 ≤ amax A (k + 1)
  | 0 => by simp [amax]
  | k + 1 => by
    have := amax_pos A k
    rw [amax]
    split <;> omega
end Go.Proofs.YtahfdbblndphaaaGreatDoor

/- Package greedy: Run: what a model says behind a prompt. -/
namespace Go.Proofs.YtahfdbblndphaaaGreatDoor
open Go.ChangeShapes Go.WideShapes Go.ChangeAt Go.RowKit
def noX : Vw := ⟨[], [], []⟩
/-- Behind j tokens of an answer: the view, the answer, and the tokens that the view lacks. -/
structure RunS where
  X : Vw
  Y : List Int
  T : List Int
def runS (M : Mdl) (V D H Hd L : Nat) (P : List Int) : Nat → RunS
  | 0 => ⟨noX, [], P⟩
  | j + 1 => ⟨feedAll M D H Hd L (runS M V D H Hd L P j).X (runS M V D H Hd L P j).T,
      (runS M V D H Hd L P j).Y ++ [amax (likAt M V D H Hd L (runS M V D H Hd L P j).X (runS M V D H Hd L P j).T (runS M V D H Hd L P j).T.length) V],
      [amax (likAt M V D H Hd L (runS M V D H Hd L P j).X (runS M V D H Hd L P j).T (runS M V D H Hd L P j).T.length) V]⟩
theorem runS_len (M : Mdl) (V D H Hd L : Nat) (P : List Int) : ∀ j, (runS M V D H Hd L P j).Y.length = j
  | 0 => rfl
  | j + 1 => by show (_ ++ [_]).length = _; rw [List.length_append, runS_len M V D H Hd L P j]; rfl
theorem runS_sum (M : Mdl) (V D H Hd L : Nat) (P : List Int) : ∀ j, (runS M V D H Hd L P j).X.T.length + (runS M V D H Hd L P j).T.length = P.length + j
  | 0 => by show 0 + P.length = _; omega
  | j + 1 => by
    show (feedAll M D H Hd L _ _).T.length + 1 = _
    rw [feedAll_len, runS_sum M V D H Hd L P j]
    omega
theorem amax_tok (A : List Int) {V : Nat} (hV : 1 ≤ V) : 0 ≤ amax A V ∧ amax A V < V := by
  obtain ⟨k, rfl⟩ : ∃ k, V = k + 1 := ⟨V - 1, by omega⟩
  exact ⟨amax_pos A k, (amax_bd A (k + 1)).2⟩
theorem noX_fit (V : Int) (D L : Nat) : VwFit V D L noX := ⟨by show 0 ≤ 128; omega, rfl, rfl, rfl, (fun _ h => by cases h), (fun _ h => by cases h)⟩
theorem runS_toks {M : Mdl} {V D H Hd L : Nat} {P : List Int} (hV : 1 ≤ V) (hP : promptN V P = 0) : ∀ j, promptN V (runS M V D H Hd L P j).T = 0
  | 0 => hP
  | j + 1 => by
    have h := amax_tok (likAt M V D H Hd L (runS M V D H Hd L P j).X (runS M V D H Hd L P j).T (runS M V D H Hd L P j).T.length) hV
    show promptN V [amax _ V] = 0
    unfold promptN
    rw [if_neg (by simp), if_neg (by simp)]
    have : List.all [amax (likAt M V D H Hd L (runS M V D H Hd L P j).X (runS M V D H Hd L P j).T (runS M V D H Hd L P j).T.length) (V : Nat)] (tokB V) = true := by
      simp only [List.all_cons, List.all_nil, Bool.and_true]
      unfold tokB
      exact decide_eq_true h
    rw [if_pos this]
theorem runS_fit {M : Mdl} {V D H Hd L : Nat} {P : List Int} (hV : 1 ≤ V) (hP : promptN V P = 0) : ∀ j, P.length + j ≤ 129 → VwFit V D L (runS M V D H Hd L P j).X
  | 0, _ => noX_fit _ _ _
  | j + 1, h => by
    have hs := runS_sum M V D H Hd L P j
    exact feedAll_fit (runS_fit hV hP j (by omega)) (prompt_ok (runS_toks hV hP j)).2.2 (by omega)
theorem asked_ok {V : Int} {A : List Int} {most : Int} (h : askedN V A most = 0) : promptN V A = 0 ∧ 1 ≤ most ∧ most ≤ 128 - (A.length : Int) := by
  unfold askedN at h
  split at h
  · rename_i h1; exact absurd h h1
  · rename_i h1
    split at h
    · omega
    · split at h
      · omega
      · exact ⟨by simpa using h1, by omega, by omega⟩
theorem over_not {A : List Int} {most : Int} (h : overB A most = false) : (A.length : Int) < most := by
  unfold overB at h
  rw [Bool.or_eq_false_iff] at h
  simpa using h.1
theorem one_int {w : World} {bo : Nat} {x : Int} (h : w.cell? ⟨bo, 0, none⟩ = some (.int .i64 x)) : ∀ j u, ([x].map (Value.int .i64))[j]? = some u → w.cell? ((Addr.mk bo 0 none).add j) = some u := by
  intro j u hj
  match j, hj with
  | 0, hj =>
    simp at hj
    subst hj
    have e2 : (Addr.mk bo 0 none).add 0 = ⟨bo, 0, none⟩ := by simp [Addr.add]
    rw [e2, h]
theorem iarg_one {w : World} {bo : Nat} {x : Int} (h : Blk w bo 3 #[.int .i64 x]) (h1 : -9223372036854775808 ≤ x) (h2 : x ≤ 9223372036854775807) : IArg w (some ⟨bo, 0, none⟩) 1 1 [x] := by
  refine ⟨⟨rfl, by omega, fun k => ?_, fun _ => ⟨bo, 0, rfl, fun t ht => ?_⟩⟩, by omega, by omega, fun h => by cases h⟩
  · cases k with
    | zero => exact ⟨h1, h2⟩
    | succ k => simp [el]
  · obtain rfl : t = 0 := by omega
    exact h.cell 0 rfl
theorem el_snoc_bd {A : List Int} {x : Int} (h : ∀ k, -9223372036854775808 ≤ el A k ∧ el A k ≤ 9223372036854775807) (h1 : -9223372036854775808 ≤ x) (h2 : x ≤ 9223372036854775807) (k : Nat) : -9223372036854775808 ≤ el (A ++ [x]) k ∧ el (A ++ [x]) k ≤ 9223372036854775807 := by
  rcases Nat.lt_or_ge k A.length with hk | hk
  · rw [el_append_left hk]; exact h k
  · unfold el
    rw [List.getD_eq_getElem?_getD, List.getElem?_append_right hk]
    rcases Nat.eq_zero_or_pos (k - A.length) with h0 | h0
    · rw [h0]; exact ⟨h1, h2⟩
    · rw [List.getElem?_eq_none (by simp; omega)]; simp
theorem runS_yb (M : Mdl) (V D H Hd L : Nat) (P : List Int) (hV : 1 ≤ V) (hV2 : V ≤ 4096) : ∀ (j k : Nat), -9223372036854775808 ≤ el (runS M V D H Hd L P j).Y k ∧ el (runS M V D H Hd L P j).Y k ≤ 9223372036854775807
  | 0, k => by
    have e : el (runS M V D H Hd L P 0).Y k = 0 := by show el [] k = 0; simp [el]
    rw [e]; omega
  | j + 1, k => by
    have ih := runS_yb M V D H Hd L P hV hV2 j
    have ht := amax_tok (likAt M V D H Hd L (runS M V D H Hd L P j).X (runS M V D H Hd L P j).T (runS M V D H Hd L P j).T.length) hV
    have e : (runS M V D H Hd L P (j + 1)).Y = (runS M V D H Hd L P j).Y ++ [amax (likAt M V D H Hd L (runS M V D H Hd L P j).X (runS M V D H Hd L P j).T (runS M V D H Hd L P j).T.length) V] := rfl
    rw [e]
    exact el_snoc_bd ih (by omega) (by omega) k
/-- Within Run: boxes, the view, the answer and the tokens behind j rounds. -/
structure RI (w wr : World) (V D H Hd L : Nat) (cfg ws : Array Value) (M : Mdl) (P : List Int) (gV j : Nat) (vv : VwV) (ya ta : Option Addr) (yc tn tc : Nat) : Prop where
  x0 : Blk wr w.heap.size 23 cfg
  x1 : Blk wr (w.heap.size + 1) 29 ws
  xv : Blk wr gV 58 vv.cells
  at_ : VwAt wr vv (runS M V D H Hd L P j).X
  y : IOwn wr (gV + 1) (.slice ya j yc) j (runS M V D H Hd L P j).Y
  t : IArg wr ta tn tc (runS M V D H Hd L P j).T
  kp : Below w.heap.size w wr
  gv : w.heap.size + 1 < gV
set_option maxRecDepth 100000 in
set_option maxHeartbeats 3200000 in
theorem run_bad (V D Hd H L : Nat) (W : Wt) (bs : List Bk) (M : Mdl) (ao : Option Addr) (n ca : Nat) (P : List Int) (most : Int) (w : World) (hG : Good w V D Hd H L W bs M) (hA : IArg w ao n ca P) (hq : askedN V P most ≠ 0) :
   Calls Tryz.prog 7 #[.agg (cfgC V D Hd H L), .agg W.cells, .slice ao n ca, .int .i64 most] w fun e w' => e = .returned (.tuple #[.slice none 0 0, .int .i64 (askedN V P most)]) ∧ Below w.heap.size w w' := by
  obtain ⟨q1, q2, q3, q4, q5, q6, q7, q8, q9, q10⟩ := shape_ok hG.shape
  have CK := fun (wv : World) (hb : Below w.heap.size w wv) => check_good (hG.below hb)
  have CA := fun (wv : World) (hb : Below w.heap.size w wv) => asked_any V D Hd H L ao n ca P most wv (hA.below hb)
  have siz : W.cells.size = 8 := rfl
  have hq' : (askedN V P most == 0) = false := by simpa using hq
  generalize askedN V P most = q at *
  generalize hws : W.cells = ws at *
  unfold cfgC at CK CA ⊢
  have X0 := blk_new w 23 #[.int .i64 (V : Int), .int .i64 (D : Int), .int .i64 (Hd : Int), .int .i64 (H : Int), .int .i64 (L : Int)]
  have B0 : Below w.heap.size w (w.alloc (.cells #[.int .i64 (V : Int), .int .i64 (D : Int), .int .i64 (Hd : Int), .int .i64 (H : Int), .int .i64 (L : Int)] 23)) := (Below.refl _ _).alloc (Nat.le_refl _) _
  have s0 : (w.alloc (.cells #[.int .i64 (V : Int), .int .i64 (D : Int), .int .i64 (Hd : Int), .int .i64 (H : Int), .int .i64 (L : Int)] 23)).heap.size = w.heap.size + 1 := by simp
  generalize hw0 : w.alloc (.cells #[.int .i64 (V : Int), .int .i64 (D : Int), .int .i64 (Hd : Int), .int .i64 (H : Int), .int .i64 (L : Int)] 23) = w0 at *
  have X1 := blk_new w0 29 ws
  have B1 : Below w0.heap.size w0 (w0.alloc (.cells ws 29)) := (Below.refl _ _).alloc (Nat.le_refl _) _
  have s1 : (w0.alloc (.cells ws 29)).heap.size = w0.heap.size + 1 := by simp
  rw [s0] at X1 s1
  generalize hw1 : w0.alloc (.cells ws 29) = w1 at *
  replace X0 := X0.below B1
  replace B1 := below_then B0 B1
  have a0 : w1.cell? ⟨w.heap.size, 0, none⟩ = some (.int .i64 (V : Int)) := X0.cell 0 rfl
  have a1 : w1.cell? ⟨w.heap.size, 1, none⟩ = some (.int .i64 (D : Int)) := X0.cell 1 rfl
  have a2 : w1.cell? ⟨w.heap.size, 2, none⟩ = some (.int .i64 (Hd : Int)) := X0.cell 2 rfl
  have a3 : w1.cell? ⟨w.heap.size, 3, none⟩ = some (.int .i64 (H : Int)) := X0.cell 3 rfl
  have a4 : w1.cell? ⟨w.heap.size, 4, none⟩ = some (.int .i64 (L : Int)) := X0.cell 4 rfl
  go_enter Tryz.func7, Tryz.ntmps7
  go_wp2_with (refine wpList_load_row rfl 29 _ rfl (w.heap.size + 1) rfl 29 ws (0, 0) _ X1 Tryz.underlying29 rfl (by rw [siz]; exact Tryz.infoW) ?_)
  refine (CK _ B1).mono ?_
  rintro e w2 ⟨rfl, B2⟩
  replace X0 := X0.below B2
  replace X1 := X1.below B2
  have D2 := below_then B1 B2
  clear a0 a1 a2 a3 a4 hw0 hw1 B0 B1 B2 CK
  have a0 : w2.cell? ⟨w.heap.size, 0, none⟩ = some (.int .i64 (V : Int)) := X0.cell 0 rfl
  have a1 : w2.cell? ⟨w.heap.size, 1, none⟩ = some (.int .i64 (D : Int)) := X0.cell 1 rfl
  have a2 : w2.cell? ⟨w.heap.size, 2, none⟩ = some (.int .i64 (Hd : Int)) := X0.cell 2 rfl
  have a3 : w2.cell? ⟨w.heap.size, 3, none⟩ = some (.int .i64 (H : Int)) := X0.cell 3 rfl
  have a4 : w2.cell? ⟨w.heap.size, 4, none⟩ = some (.int .i64 (L : Int)) := X0.cell 4 rfl
  go_wp2_with fail
  refine (CA _ D2).mono ?_
  rintro e w3 ⟨rfl, B3⟩
  replace X0 := X0.below B3
  replace X1 := X1.below B3
  have D3 := below_then D2 B3
  clear a0 a1 a2 a3 a4 B3 D2 CA s0 s1
  go_wp2
  go_ret2
  exact ⟨rfl, D3⟩
set_option maxRecDepth 100000 in
set_option maxHeartbeats 3200000 in
theorem run_ok (V D Hd H L : Nat) (W : Wt) (bs : List Bk) (M : Mdl) (ao : Option Addr) (n ca : Nat) (P : List Int) (most : Int) (w : World) (hG : Good w V D Hd H L W bs M) (hA : IArg w ao n ca P) (hT : Tab w) (hq : askedN V P most = 0) :
   Calls Tryz.prog 7 #[.agg (cfgC V D Hd H L), .agg W.cells, .slice ao n ca, .int .i64 most] w fun e w' => ∃ j ya yc, e = .returned (.tuple #[.slice ya j yc, .int .i64 0]) ∧ IOwn w' w.heap.size (.slice ya j yc) j (runS M V D H Hd L P j).Y ∧ overB (runS M V D H Hd L P j).Y most = true ∧ (∀ i, i < j → overB (runS M V D H Hd L P i).Y most = false) ∧ Below w.heap.size w w' := by
  obtain ⟨q1, q2, q3, q4, q5, q6, q7, q8, q9, q10⟩ := shape_ok hG.shape
  have CK := fun (wv : World) (hb : Below w.heap.size w wv) => check_good (hG.below hb)
  have CA := fun (wv : World) (hb : Below w.heap.size w wv) => asked_any V D Hd H L ao n ca P most wv (hA.below hb)
  have siz : W.cells.size = 8 := rfl
  obtain ⟨p1, p2, p3⟩ := asked_ok hq
  rw [hq] at CA
  have hl := hA.row.len
  have HT : Hid (∀ wv, Below w.heap.size w wv → Tab wv) := fun wv hb => hT.next hb
  have HG : Hid (∀ wv, Below w.heap.size w wv → Good wv V D Hd H L W bs M) := fun wv hb => hG.below hb
  have HP : Hid (∀ wv, Below w.heap.size w wv → IArg wv ao n ca P) := fun wv hb => hA.below hb
  have HTK : Hid (∀ j, promptN V (runS M V D H Hd L P j).T = 0) := fun j => runS_toks (by omega) p1 j
  have HFT : Hid (∀ j, P.length + j ≤ 129 → VwFit V D L (runS M V D H Hd L P j).X) := fun j hj => runS_fit (by omega) p1 j hj
  have HSM : Hid (∀ j, (runS M V D H Hd L P j).X.T.length + (runS M V D H Hd L P j).T.length = P.length + j) := fun j => runS_sum M V D H Hd L P j
  have HLN : Hid (∀ j, (runS M V D H Hd L P j).Y.length = j) := fun j => runS_len M V D H Hd L P j
  have CC := fun (vv : VwV) (Y : Vw) (ta : Option Addr) (tn tc : Nat) (A : List Int) (wv : World) (h1 : Tab wv) (h2 : Good wv V D Hd H L W bs M) (h3 : VwAt wv vv Y) (h4 : VwFit V D L Y) (h5 : IArg wv ta tn tc A) (h6 : promptN V A = 0) (h7 : Y.T.length + A.length ≤ 128) => all_ok V D Hd H L W bs M vv Y ta tn tc A wv h1 h2 h3 h4 h5 h6 h7
  have HYB : Hid (∀ j k, -9223372036854775808 ≤ el (runS M V D H Hd L P j).Y k ∧ el (runS M V D H Hd L P j).Y k ≤ 9223372036854775807) := fun j k => runS_yb M V D H Hd L P (by omega) (by omega) j k
  clear hT hG hA hq
  generalize hws : W.cells = ws at *
  unfold cfgC at CK CA CC ⊢
  have X0 := blk_new w 23 #[.int .i64 (V : Int), .int .i64 (D : Int), .int .i64 (Hd : Int), .int .i64 (H : Int), .int .i64 (L : Int)]
  have B0 : Below w.heap.size w (w.alloc (.cells #[.int .i64 (V : Int), .int .i64 (D : Int), .int .i64 (Hd : Int), .int .i64 (H : Int), .int .i64 (L : Int)] 23)) := (Below.refl _ _).alloc (Nat.le_refl _) _
  have s0 : (w.alloc (.cells #[.int .i64 (V : Int), .int .i64 (D : Int), .int .i64 (Hd : Int), .int .i64 (H : Int), .int .i64 (L : Int)] 23)).heap.size = w.heap.size + 1 := by simp
  generalize hw0 : w.alloc (.cells #[.int .i64 (V : Int), .int .i64 (D : Int), .int .i64 (Hd : Int), .int .i64 (H : Int), .int .i64 (L : Int)] 23) = w0 at *
  have X1 := blk_new w0 29 ws
  have B1 : Below w0.heap.size w0 (w0.alloc (.cells ws 29)) := (Below.refl _ _).alloc (Nat.le_refl _) _
  have s1 : (w0.alloc (.cells ws 29)).heap.size = w0.heap.size + 1 := by simp
  rw [s0] at X1 s1
  generalize hw1 : w0.alloc (.cells ws 29) = w1 at *
  replace X0 := X0.below B1
  replace B1 := below_then B0 B1
  have a0 : w1.cell? ⟨w.heap.size, 0, none⟩ = some (.int .i64 (V : Int)) := X0.cell 0 rfl
  have a1 : w1.cell? ⟨w.heap.size, 1, none⟩ = some (.int .i64 (D : Int)) := X0.cell 1 rfl
  have a2 : w1.cell? ⟨w.heap.size, 2, none⟩ = some (.int .i64 (Hd : Int)) := X0.cell 2 rfl
  have a3 : w1.cell? ⟨w.heap.size, 3, none⟩ = some (.int .i64 (H : Int)) := X0.cell 3 rfl
  have a4 : w1.cell? ⟨w.heap.size, 4, none⟩ = some (.int .i64 (L : Int)) := X0.cell 4 rfl
  go_enter Tryz.func7, Tryz.ntmps7
  go_wp2_with (refine wpList_load_row rfl 29 _ rfl (w.heap.size + 1) rfl 29 ws (0, 0) _ X1 Tryz.underlying29 rfl (by rw [siz]; exact Tryz.infoW) ?_)
  refine (CK _ B1).mono ?_
  rintro e w2 ⟨rfl, B2⟩
  replace X0 := X0.below B2
  replace X1 := X1.below B2
  have D2 := below_then B1 B2
  clear a0 a1 a2 a3 a4 hw0 hw1 B0 B1 B2 CK
  have a0 : w2.cell? ⟨w.heap.size, 0, none⟩ = some (.int .i64 (V : Int)) := X0.cell 0 rfl
  have a1 : w2.cell? ⟨w.heap.size, 1, none⟩ = some (.int .i64 (D : Int)) := X0.cell 1 rfl
  have a2 : w2.cell? ⟨w.heap.size, 2, none⟩ = some (.int .i64 (Hd : Int)) := X0.cell 2 rfl
  have a3 : w2.cell? ⟨w.heap.size, 3, none⟩ = some (.int .i64 (H : Int)) := X0.cell 3 rfl
  have a4 : w2.cell? ⟨w.heap.size, 4, none⟩ = some (.int .i64 (L : Int)) := X0.cell 4 rfl
  go_wp2_with fail
  refine (CA _ D2).mono ?_
  rintro e w3 ⟨rfl, B3⟩
  replace X0 := X0.below B3
  replace X1 := X1.below B3
  have D3 := below_then D2 B3
  clear a0 a1 a2 a3 a4 B3 D2 CA s0 s1
  have XV := blk_new w3 58 #[.slice none 0 0, .slice none 0 0, .slice none 0 0]
  have BV : Below w3.heap.size w3 (w3.alloc (.cells #[.slice none 0 0, .slice none 0 0, .slice none 0 0] 58)) := (Below.refl _ _).alloc (Nat.le_refl _) _
  have z1 := X1.lt
  generalize hwv : w3.alloc (.cells #[.slice none 0 0, .slice none 0 0, .slice none 0 0] 58) = w4 at *
  have DV := below_then D3 BV
  have A0 := HP.out _ DV
  have G0 : RI w w4 V D H Hd L #[.int .i64 (V : Int), .int .i64 (D : Int), .int .i64 (Hd : Int), .int .i64 (H : Int), .int .i64 (L : Int)] ws M P w3.heap.size 0 ⟨⟨none, 0, 0⟩, ⟨none, 0, 0⟩, ⟨none, 0, 0⟩⟩ none ao 0 n ca := ⟨X0.below BV, X1.below BV, XV, ⟨iarg_nil _, ⟨rfl, by show 0 ≤ _; omega, fun h => absurd (show 0 < 0 from h) (by omega)⟩, ⟨rfl, by show 0 ≤ _; omega, fun h => absurd (show 0 < 0 from h) (by omega)⟩⟩, World.ownsRow_nil _ _ _ _, A0, DV, z1⟩
  go_wp2_with fail
  clear hwv X0 X1 XV BV D3 DV A0
  go_loopg [13, 14] (most.toNat + 1) (fun r s13 s14 wr => ∃ (j : Nat) (vv : VwV) (ya ta : Option Addr) (yc tn tc : Nat), (j : Int) ≤ most ∧ r = most.toNat + 1 - j ∧ s13 = .slice ya j yc ∧ s14 = .slice ta tn tc ∧ (∀ i, i < j → overB (runS M V D H Hd L P i).Y most = false) ∧ RI w wr V D H Hd L #[.int .i64 (V : Int), .int .i64 (D : Int), .int .i64 (Hd : Int), .int .i64 (H : Int), .int .i64 (L : Int)] ws M P w3.heap.size j vv ya ta yc tn tc)
  case atStart => exact ⟨0, _, none, ao, 0, n, ca, by omega, by omega, rfl, rfl, fun i hi => by omega, G0⟩
  case round =>
    obtain ⟨j, vv, ya, ta, yc, tn, tc, hj, rfl, rfl, rfl, hall0, G⟩ := hrel
    clear G0
    have yb : ∀ k, -9223372036854775808 ≤ el (runS M V D H Hd L P j).Y k ∧ el (runS M V D H Hd L P j).Y k ≤ 9223372036854775807 := HYB.out j
    obtain ⟨ya', yc', ey, AY⟩ := G.y.arg yb
    simp only [Value.slice.injEq, true_and] at ey
    obtain ⟨rfl, rfl⟩ := ey
    have CO := over_any ya j yc (runS M V D H Hd L P j).Y most wr AY.row
    by_cases ho : overB (runS M V D H Hd L P j).Y most = true
    · rw [ho] at CO
      go_wp2_with (go_at_call 18; refine CO.mono ?_; rintro e w5 ⟨rfl, h5⟩; replace h5 := h5.symm; subst h5)
      go_ret2
      exact ⟨j, ya, yc, rfl, owns_mono G.y (by have := G.gv; omega) (fun _ _ => rfl), ho, hall0, G.kp⟩
    · replace ho : overB (runS M V D H Hd L P j).Y most = false := by simpa using ho
      rw [ho] at CO
      have hjm : (j : Int) < most := by have := over_not ho; rw [HLN.out j] at this; exact this
      have hall1 : ∀ i, i < j + 1 → overB (runS M V D H Hd L P i).Y most = false := fun i hi => by
        rcases Nat.lt_or_ge i j with h | h
        · exact hall0 i h
        · obtain rfl : i = j := by omega
          exact ho
      have X0 := G.x0
      have X1 := G.x1
      have XV := G.xv
      have KP := G.kp
      have GV := G.gv
      have OY := G.y
      have a0 : wr.cell? ⟨w.heap.size, 0, none⟩ = some (.int .i64 (V : Int)) := X0.cell 0 rfl
      have a1 : wr.cell? ⟨w.heap.size, 1, none⟩ = some (.int .i64 (D : Int)) := X0.cell 1 rfl
      have a2 : wr.cell? ⟨w.heap.size, 2, none⟩ = some (.int .i64 (Hd : Int)) := X0.cell 2 rfl
      have a3 : wr.cell? ⟨w.heap.size, 3, none⟩ = some (.int .i64 (H : Int)) := X0.cell 3 rfl
      have a4 : wr.cell? ⟨w.heap.size, 4, none⟩ = some (.int .i64 (L : Int)) := X0.cell 4 rfl
      have one := vwv_one vv
      have siv := vwv_size vv
      have CX := CC vv (runS M V D H Hd L P j).X ta tn tc (runS M V D H Hd L P j).T wr (HT.out _ KP) (HG.out _ KP) G.at_ (HFT.out j (by omega)) G.t (HTK.out j) (by have := HSM.out j; omega)
      generalize vv.cells = cv at *
      clear G hall0 ho AY
      have HX1 : Hid ((runS M V D H Hd L P (j + 1)).X = feedAll M D H Hd L (runS M V D H Hd L P j).X (runS M V D H Hd L P j).T) := rfl
      have HY1 : Hid ((runS M V D H Hd L P (j + 1)).Y = (runS M V D H Hd L P j).Y ++ [amax (likAt M V D H Hd L (runS M V D H Hd L P j).X (runS M V D H Hd L P j).T (runS M V D H Hd L P j).T.length) V]) := rfl
      have HT1 : Hid ((runS M V D H Hd L P (j + 1)).T = [amax (likAt M V D H Hd L (runS M V D H Hd L P j).X (runS M V D H Hd L P j).T (runS M V D H Hd L P j).T.length) V]) := rfl
      have tkb := amax_tok (likAt M V D H Hd L (runS M V D H Hd L P j).X (runS M V D H Hd L P j).T (runS M V D H Hd L P j).T.length) (V := V) (by omega)
      generalize likAt M V D H Hd L (runS M V D H Hd L P j).X (runS M V D H Hd L P j).T (runS M V D H Hd L P j).T.length = lk at *
      go_wp2_with (first | (go_at_call 18; refine CO.mono ?_; rintro e w5 ⟨rfl, h5⟩; replace h5 := h5.symm; subst h5) | (refine wpList_load_row rfl 29 _ rfl (w.heap.size + 1) rfl 29 ws (0, 0) _ X1 Tryz.underlying29 rfl (by rw [siz]; exact Tryz.infoW) ?_) | (refine wpList_load_row rfl 58 _ rfl w3.heap.size rfl 58 cv (0, 0) _ XV Tryz.underlying58 rfl (by rw [siv]; exact Tryz.infoV) ?_))
      refine CX.mono ?_
      rintro e w7 ⟨v2, g, rfl, N7, F7, B7⟩
      rw [← HX1.out] at N7
      have one2 := vwv_one v2
      have siv2 := vwv_size v2
      generalize hc2 : v2.cells = cw at *
      have lty := fun b hb => (OY.lt b hb).2
      have ltv := XV.lt
      have sW := KP.size
      replace X0 := X0.below B7
      replace X1 := X1.below B7
      replace XV := XV.below B7
      replace OY := owns_below OY B7
      have D7 := below_then KP B7
      have z7 := B7.size
      clear a0 a1 a2 a3 a4 CX CO KP
      have XA := blk_new w7 58 #[.slice none 0 0, .slice none 0 0, .slice none 0 0]
      have BA : Below w7.heap.size w7 (w7.alloc (.cells #[.slice none 0 0, .slice none 0 0, .slice none 0 0] 58)) := (Below.refl _ _).alloc (Nat.le_refl _) _
      generalize hwa : w7.alloc (.cells #[.slice none 0 0, .slice none 0 0, .slice none 0 0] 58) = wa at *
      have XB := XA.row cw
      have BB := below_setRow BA (Nat.le_refl _) cw
      generalize hwb : wa.setRow w7.heap.size cw = wb at *
      replace X0 := X0.below BB
      replace X1 := X1.below BB
      replace XV := XV.below BB
      replace OY := owns_below OY BB
      replace N7 := N7.below BB
      replace F7 := F7.below BB
      have DB := below_then D7 BB
      have zb := XB.lt
      have CN := gnext_any (some ⟨g, 0, none⟩) V V lk wb F7.rowAt
      go_wp2_with (first | (refine wpList_store_row rfl 58 _ _ rfl w7.heap.size cw rfl rfl 58 _ XA (by rw [siv2]; exact Tryz.infoV) (by rw [siv2]; rfl) one2 ?_; rw [hwb]) | (go_at_call 20; refine CN.mono ?_; rintro e w8 ⟨rfl, hw8⟩; replace hw8 := hw8.symm; subst hw8))
      clear hwa hwb XA BA CN F7 D7 B7 BB
      generalize amax lk V = tk at *
      replace X0 := X0.below ((Below.refl _ _).drew)
      replace X1 := X1.below ((Below.refl _ _).drew)
      replace XV := XV.below ((Below.refl _ _).drew)
      replace XB := XB.below ((Below.refl _ _).drew)
      replace OY := owns_below OY ((Below.refl _ _).drew)
      replace N7 := N7.below ((Below.refl _ _).drew)
      replace DB := DB.drew
      replace zb : w7.heap.size < wb.drew.heap.size := zb
      obtain ⟨i0, hi, hz0, hz1, hz2⟩ := info_parts Tryz.infoInt
      refine wp_region_held_drew (S := fun w' => Blk w' w7.heap.size 58 cw) (by kernel_rfl) (XB) (fun hHeld => ?_)
      generalize hA : wb.drew = wA at *
      clear hA
      refine wpAnyH_take (i := 0) (v := (.agg cw)) rfl (by kernel_rfl) (by kernel_rfl) (by kernel_rfl) (fun _ _ _ h => h) (Or.inl ⟨by rfl, ?_⟩) (by assumption) ?_
      · intro w' hSw
        exact yield_row 58 _ rfl w7.heap.size rfl cw (load_v hSw siv2)
      simp only [List.getElem_toArray, List.getElem_cons_zero, Act.put, List.setIfInBounds_toArray, List.set_cons_zero, List.set_cons_succ]
      refine wpAnyH_take (i := 1) (v := (.slice ya j yc)) rfl (by kernel_rfl) (by kernel_rfl) (by kernel_rfl) (fun _ _ _ h => h) (Or.inl ⟨by rfl, ?_⟩) (by assumption) ?_
      · intro w' hSw
        go_simp
      simp only [List.getElem_toArray, List.getElem_cons_succ, List.getElem_cons_zero, Act.put, List.setIfInBounds_toArray, List.set_cons_zero, List.set_cons_succ]
      refine wpAnyH_take (i := 2) (v := (.int .i64 tk)) rfl (by kernel_rfl) (by kernel_rfl) (by kernel_rfl) (fun _ _ _ h => h) (Or.inl ⟨by rfl, ?_⟩) (by assumption) ?_
      · intro w' hSw
        go_simp
      simp only [List.getElem_toArray, List.getElem_cons_succ, List.getElem_cons_zero, Act.put, List.setIfInBounds_toArray, List.set_cons_zero, List.set_cons_succ]
      refine wpAnyH_take (i := 5) (v := (.int .i64 tk)) rfl (by kernel_rfl) (by kernel_rfl) (by kernel_rfl) (fun _ _ _ h => h) (Or.inl ⟨by rfl, ?_⟩) (by assumption) ?_
      · intro w' hSw
        go_simp
      simp only [List.getElem_toArray, List.getElem_cons_succ, List.getElem_cons_zero, Act.put, List.setIfInBounds_toArray, List.set_cons_zero, List.set_cons_succ]
      refine wpAnyH_ready (rs := [3, 6]) (by kernel_rfl) (by simp) ?_
      refine AllReadyH.cons rfl (fun Kc hKc => ?_) (AllReadyH.cons rfl (fun Kc hKc => ?_) AllReadyH.nil)
      · simp only [List.getElem_toArray, List.getElem_cons_succ, List.getElem_cons_zero]
        rw [if_pos (by rfl)]
        go_wp2_with fail
        have XQ := blk_new wA 3 #[.int .i64 tk]
        have EB1 : Below wA.heap.size wA (wA.alloc (.cells #[.int .i64 tk] 3)) := (Below.refl _ _).alloc (Nat.le_refl _) _
        generalize hn1 : wA.alloc (.cells #[.int .i64 tk] 3) = wB1 at *
        replace X0 := X0.below EB1
        replace X1 := X1.below EB1
        replace XV := XV.below EB1
        replace XB := XB.below EB1
        replace OY := owns_below OY EB1
        replace N7 := N7.below EB1
        replace DB := below_then DB EB1
        have zwB1 := EB1.size
        refine hKc.out _ _ XB (fun hHeld => ?_)
        clear hKc Kc hn1
        refine wpAnyH_ready (rs := [4, 6]) (by kernel_rfl) (by simp) ?_
        refine AllReadyH.cons rfl (fun Kc hKc => ?_) (AllReadyH.cons rfl (fun Kc hKc => ?_) AllReadyH.nil)
        · simp only [List.getElem_toArray, List.getElem_cons_succ, List.getElem_cons_zero]
          rw [if_pos (by rfl)]
          have hxq : ∀ jj u, ([tk].map (Value.int .i64))[jj]? = some u → wB1.cell? ((Addr.mk (wA.heap.size) 0 none).add jj) = some u := one_int (XQ.cell 0 rfl)
          refine wp_append_own wB1 _ _ 30 rfl (w3.heap.size + 1) 3 i0 (.int .i64 0) 1 8 Tryz.underlying30 hi hz0 hz1 hz2 rfl (by decide) _ j _ rfl OY ⟨wA.heap.size, 0, none⟩ 1 1 ([tk].map (Value.int .i64)) rfl rfl hxq (ints_oneCell _ _) (by unfold maxLen; omega) (by omega) (by omega) ?_
          intro v' wB2 O2 G2 N2
          obtain ⟨ya2, yc2, rfl⟩ := owns_slice O2
          have hown : ∀ b, Value.ownBlock (.slice ya j yc) = some b → w3.heap.size + 1 ≤ b ∧ b < wr.heap.size := fun b hb => ⟨(OY.lt b hb).1, lty b hb⟩
          replace X0 := Blk.of_block X0 (G2.block _ X0.lt (fun h => by have := hown _ h.symm; omega))
          replace X1 := Blk.of_block X1 (G2.block _ X1.lt (fun h => by have := hown _ h.symm; omega))
          replace XV := Blk.of_block XV (G2.block _ XV.lt (fun h => by have := hown _ h.symm; omega))
          replace XB := Blk.of_block XB (G2.block _ XB.lt (fun h => by have := hown _ h.symm; omega))
          replace N7 := Hangs.grown N7 G2 (fun b hb h => by have := hown b h.symm; omega)
          clear XQ
          replace DB := DB.grown G2 DB.size (fun k hk => by have := hown k hk; omega)
          have zwB2 := G2.size
          refine hKc.out _ _ XB (fun hHeld => ?_)
          clear hKc Kc hxq
          refine wpAnyH_ready (rs := [6, 7]) (by kernel_rfl) (by simp) ?_
          refine AllReadyH.cons rfl (fun Kc hKc => ?_) (AllReadyH.cons rfl (fun Kc hKc => ?_) AllReadyH.nil)
          · simp only [List.getElem_toArray, List.getElem_cons_succ, List.getElem_cons_zero]
            rw [if_pos (by rfl)]
            go_wp2_with fail
            have XT := blk_new wB2 3 #[.int .i64 tk]
            have EB3 : Below wB2.heap.size wB2 (wB2.alloc (.cells #[.int .i64 tk] 3)) := (Below.refl _ _).alloc (Nat.le_refl _) _
            generalize hn3 : wB2.alloc (.cells #[.int .i64 tk] 3) = wB3 at *
            replace X0 := X0.below EB3
            replace X1 := X1.below EB3
            replace XV := XV.below EB3
            replace XB := XB.below EB3
            replace N7 := N7.below EB3
            replace O2 := owns_below O2 EB3
            replace DB := below_then DB EB3
            have zwB3 := EB3.size
            refine hKc.out _ _ XB (fun hHeld => ?_)
            clear hKc Kc hn3
            refine wpAnyH_ready (rs := [7]) (by kernel_rfl) (by simp) ?_
            refine AllReadyH.cons rfl (fun Kc hKc => ?_) AllReadyH.nil
            simp only [List.getElem_toArray, List.getElem_cons_succ, List.getElem_cons_zero]
            rw [if_pos (by rfl)]
            refine wp_store_row 58 _ _ rfl w3.heap.size cw rfl rfl 58 _ XV (by rw [siv2]; exact Tryz.infoV) (by rw [siv, siv2]) one2 ?_
            have so4 : ∀ b, b ≠ w3.heap.size → (wB3.setRow w3.heap.size cw).heap[b]? = wB3.heap[b]? := fun b hb => setRow_other _ _ _ _ hb
            replace XV := XV.row cw
            have zs4 : (wB3.setRow w3.heap.size cw).heap.size = wB3.heap.size := by simp [World.setRow]
            replace X0 := Blk.of_block X0 (so4 _ (by omega))
            replace X1 := Blk.of_block X1 (so4 _ (by omega))
            replace XB := Blk.of_block XB (so4 _ (by omega))
            replace N7 := Hangs.row N7 (g := w3.heap.size) (by show ¬ (wr.heap.size ≤ w3.heap.size); omega) cw
            replace O2 := owns_mono O2 (Nat.le_refl _) (fun b hb => so4 b (by have := (O2.lt b hb).1; omega))
            replace XT := Blk.of_block XT (so4 _ (by omega))
            replace DB := below_setRow DB (show w.heap.size ≤ w3.heap.size by omega) cw
            generalize hn4 : wB3.setRow w3.heap.size cw = wB4 at *
            refine hKc.out _ _ XB (fun hHeld => ?_)
            clear hKc Kc hn4 so4
            refine wpAnyH_take (i := 8) (v := (.slice ya2 (j + 1) yc2)) rfl (by kernel_rfl) (by kernel_rfl) (by kernel_rfl) (fun _ _ _ h => h) (Or.inl ⟨by rfl, ?_⟩) (by assumption) ?_
            · intro w' hSw
              go_simp
            simp only [List.getElem_toArray, List.getElem_cons_succ, List.getElem_cons_zero, Act.put, List.setIfInBounds_toArray, List.set_cons_zero, List.set_cons_succ]
            refine wpAnyH_take (i := 9) (v := (.slice (some ⟨wB2.heap.size, 0, none⟩) 1 1)) rfl (by kernel_rfl) (by kernel_rfl) (by kernel_rfl) (fun _ _ _ h => h) (Or.inl ⟨by rfl, ?_⟩) (by assumption) ?_
            · intro w' hSw
              go_simp
            simp only [List.getElem_toArray, List.getElem_cons_succ, List.getElem_cons_zero, Act.put, List.setIfInBounds_toArray, List.set_cons_zero, List.set_cons_succ]
            refine wpAnyH_done (by kernel_rfl) ?_ _
            go_wp2_with fail
            go_roundg (most.toNat + 1 - (j + 1))
            case measure => omega
            case rel =>
              refine ⟨j + 1, v2, ya2, some ⟨wB2.heap.size, 0, none⟩, yc2, 1, 1, by omega, rfl, rfl, rfl, hall1, ⟨X0, X1, by rw [hc2]; exact XV, N7.now, ?_, ?_, DB, GV⟩⟩
              · rw [HY1.out]; unfold IOwn; rw [List.map_append]; exact O2
              · rw [HT1.out]; exact iarg_one XT (by omega) (by omega)
          · simp only [List.getElem_toArray, List.getElem_cons_succ, List.getElem_cons_zero]
            rw [if_pos (by rfl)]
            refine wp_store_row 58 _ _ rfl w3.heap.size cw rfl rfl 58 _ XV (by rw [siv2]; exact Tryz.infoV) (by rw [siv, siv2]) one2 ?_
            have so3 : ∀ b, b ≠ w3.heap.size → (wB2.setRow w3.heap.size cw).heap[b]? = wB2.heap[b]? := fun b hb => setRow_other _ _ _ _ hb
            replace XV := XV.row cw
            have zs3 : (wB2.setRow w3.heap.size cw).heap.size = wB2.heap.size := by simp [World.setRow]
            replace X0 := Blk.of_block X0 (so3 _ (by omega))
            replace X1 := Blk.of_block X1 (so3 _ (by omega))
            replace XB := Blk.of_block XB (so3 _ (by omega))
            replace N7 := Hangs.row N7 (g := w3.heap.size) (by show ¬ (wr.heap.size ≤ w3.heap.size); omega) cw
            replace O2 := owns_mono O2 (Nat.le_refl _) (fun b hb => so3 b (by have := (O2.lt b hb).1; omega))
            replace DB := below_setRow DB (show w.heap.size ≤ w3.heap.size by omega) cw
            generalize hn3 : wB2.setRow w3.heap.size cw = wB3 at *
            refine hKc.out _ _ XB (fun hHeld => ?_)
            clear hKc Kc hn3 so3
            refine wpAnyH_take (i := 8) (v := (.slice ya2 (j + 1) yc2)) rfl (by kernel_rfl) (by kernel_rfl) (by kernel_rfl) (fun _ _ _ h => h) (Or.inl ⟨by rfl, ?_⟩) (by assumption) ?_
            · intro w' hSw
              go_simp
            simp only [List.getElem_toArray, List.getElem_cons_succ, List.getElem_cons_zero, Act.put, List.setIfInBounds_toArray, List.set_cons_zero, List.set_cons_succ]
            refine wpAnyH_ready (rs := [6]) (by kernel_rfl) (by simp) ?_
            refine AllReadyH.cons rfl (fun Kc hKc => ?_) AllReadyH.nil
            simp only [List.getElem_toArray, List.getElem_cons_succ, List.getElem_cons_zero]
            rw [if_pos (by rfl)]
            go_wp2_with fail
            have XT := blk_new wB3 3 #[.int .i64 tk]
            have EB4 : Below wB3.heap.size wB3 (wB3.alloc (.cells #[.int .i64 tk] 3)) := (Below.refl _ _).alloc (Nat.le_refl _) _
            generalize hn4 : wB3.alloc (.cells #[.int .i64 tk] 3) = wB4 at *
            replace X0 := X0.below EB4
            replace X1 := X1.below EB4
            replace XV := XV.below EB4
            replace XB := XB.below EB4
            replace N7 := N7.below EB4
            replace O2 := owns_below O2 EB4
            replace DB := below_then DB EB4
            have zwB4 := EB4.size
            refine hKc.out _ _ XB (fun hHeld => ?_)
            clear hKc Kc hn4
            refine wpAnyH_take (i := 9) (v := (.slice (some ⟨wB3.heap.size, 0, none⟩) 1 1)) rfl (by kernel_rfl) (by kernel_rfl) (by kernel_rfl) (fun _ _ _ h => h) (Or.inl ⟨by rfl, ?_⟩) (by assumption) ?_
            · intro w' hSw
              go_simp
            simp only [List.getElem_toArray, List.getElem_cons_succ, List.getElem_cons_zero, Act.put, List.setIfInBounds_toArray, List.set_cons_zero, List.set_cons_succ]
            refine wpAnyH_done (by kernel_rfl) ?_ _
            go_wp2_with fail
            go_roundg (most.toNat + 1 - (j + 1))
            case measure => omega
            case rel =>
              refine ⟨j + 1, v2, ya2, some ⟨wB3.heap.size, 0, none⟩, yc2, 1, 1, by omega, rfl, rfl, rfl, hall1, ⟨X0, X1, by rw [hc2]; exact XV, N7.now, ?_, ?_, DB, GV⟩⟩
              · rw [HY1.out]; unfold IOwn; rw [List.map_append]; exact O2
              · rw [HT1.out]; exact iarg_one XT (by omega) (by omega)
        · simp only [List.getElem_toArray, List.getElem_cons_succ, List.getElem_cons_zero]
          rw [if_pos (by rfl)]
          go_wp2_with fail
          have XT := blk_new wB1 3 #[.int .i64 tk]
          have EB2 : Below wB1.heap.size wB1 (wB1.alloc (.cells #[.int .i64 tk] 3)) := (Below.refl _ _).alloc (Nat.le_refl _) _
          generalize hn2 : wB1.alloc (.cells #[.int .i64 tk] 3) = wB2 at *
          replace X0 := X0.below EB2
          replace X1 := X1.below EB2
          replace XV := XV.below EB2
          replace XB := XB.below EB2
          replace OY := owns_below OY EB2
          replace N7 := N7.below EB2
          replace XQ := XQ.below EB2
          replace DB := below_then DB EB2
          have zwB2 := EB2.size
          refine hKc.out _ _ XB (fun hHeld => ?_)
          clear hKc Kc hn2
          refine wpAnyH_ready (rs := [4]) (by kernel_rfl) (by simp) ?_
          refine AllReadyH.cons rfl (fun Kc hKc => ?_) AllReadyH.nil
          simp only [List.getElem_toArray, List.getElem_cons_succ, List.getElem_cons_zero]
          rw [if_pos (by rfl)]
          have hxq : ∀ jj u, ([tk].map (Value.int .i64))[jj]? = some u → wB2.cell? ((Addr.mk (wA.heap.size) 0 none).add jj) = some u := one_int (XQ.cell 0 rfl)
          refine wp_append_own wB2 _ _ 30 rfl (w3.heap.size + 1) 3 i0 (.int .i64 0) 1 8 Tryz.underlying30 hi hz0 hz1 hz2 rfl (by decide) _ j _ rfl OY ⟨wA.heap.size, 0, none⟩ 1 1 ([tk].map (Value.int .i64)) rfl rfl hxq (ints_oneCell _ _) (by unfold maxLen; omega) (by omega) (by omega) ?_
          intro v' wB3 O2 G2 N2
          obtain ⟨ya2, yc2, rfl⟩ := owns_slice O2
          have hown : ∀ b, Value.ownBlock (.slice ya j yc) = some b → w3.heap.size + 1 ≤ b ∧ b < wr.heap.size := fun b hb => ⟨(OY.lt b hb).1, lty b hb⟩
          replace X0 := Blk.of_block X0 (G2.block _ X0.lt (fun h => by have := hown _ h.symm; omega))
          replace X1 := Blk.of_block X1 (G2.block _ X1.lt (fun h => by have := hown _ h.symm; omega))
          replace XV := Blk.of_block XV (G2.block _ XV.lt (fun h => by have := hown _ h.symm; omega))
          replace XB := Blk.of_block XB (G2.block _ XB.lt (fun h => by have := hown _ h.symm; omega))
          replace N7 := Hangs.grown N7 G2 (fun b hb h => by have := hown b h.symm; omega)
          clear XQ
          replace XT := Blk.of_block XT (G2.block _ XT.lt (fun h => by have := hown _ h.symm; omega))
          replace DB := DB.grown G2 DB.size (fun k hk => by have := hown k hk; omega)
          have zwB3 := G2.size
          refine hKc.out _ _ XB (fun hHeld => ?_)
          clear hKc Kc hxq
          refine wpAnyH_ready (rs := [7]) (by kernel_rfl) (by simp) ?_
          refine AllReadyH.cons rfl (fun Kc hKc => ?_) AllReadyH.nil
          simp only [List.getElem_toArray, List.getElem_cons_succ, List.getElem_cons_zero]
          rw [if_pos (by rfl)]
          refine wp_store_row 58 _ _ rfl w3.heap.size cw rfl rfl 58 _ XV (by rw [siv2]; exact Tryz.infoV) (by rw [siv, siv2]) one2 ?_
          have so4 : ∀ b, b ≠ w3.heap.size → (wB3.setRow w3.heap.size cw).heap[b]? = wB3.heap[b]? := fun b hb => setRow_other _ _ _ _ hb
          replace XV := XV.row cw
          have zs4 : (wB3.setRow w3.heap.size cw).heap.size = wB3.heap.size := by simp [World.setRow]
          replace X0 := Blk.of_block X0 (so4 _ (by omega))
          replace X1 := Blk.of_block X1 (so4 _ (by omega))
          replace XB := Blk.of_block XB (so4 _ (by omega))
          replace N7 := Hangs.row N7 (g := w3.heap.size) (by show ¬ (wr.heap.size ≤ w3.heap.size); omega) cw
          replace XT := Blk.of_block XT (so4 _ (by omega))
          replace O2 := owns_mono O2 (Nat.le_refl _) (fun b hb => so4 b (by have := (O2.lt b hb).1; omega))
          replace DB := below_setRow DB (show w.heap.size ≤ w3.heap.size by omega) cw
          generalize hn4 : wB3.setRow w3.heap.size cw = wB4 at *
          refine hKc.out _ _ XB (fun hHeld => ?_)
          clear hKc Kc hn4 so4
          refine wpAnyH_take (i := 8) (v := (.slice ya2 (j + 1) yc2)) rfl (by kernel_rfl) (by kernel_rfl) (by kernel_rfl) (fun _ _ _ h => h) (Or.inl ⟨by rfl, ?_⟩) (by assumption) ?_
          · intro w' hSw
            go_simp
          simp only [List.getElem_toArray, List.getElem_cons_succ, List.getElem_cons_zero, Act.put, List.setIfInBounds_toArray, List.set_cons_zero, List.set_cons_succ]
          refine wpAnyH_take (i := 9) (v := (.slice (some ⟨wB1.heap.size, 0, none⟩) 1 1)) rfl (by kernel_rfl) (by kernel_rfl) (by kernel_rfl) (fun _ _ _ h => h) (Or.inl ⟨by rfl, ?_⟩) (by assumption) ?_
          · intro w' hSw
            go_simp
          simp only [List.getElem_toArray, List.getElem_cons_succ, List.getElem_cons_zero, Act.put, List.setIfInBounds_toArray, List.set_cons_zero, List.set_cons_succ]
          refine wpAnyH_done (by kernel_rfl) ?_ _
          go_wp2_with fail
          go_roundg (most.toNat + 1 - (j + 1))
          case measure => omega
          case rel =>
            refine ⟨j + 1, v2, ya2, some ⟨wB1.heap.size, 0, none⟩, yc2, 1, 1, by omega, rfl, rfl, rfl, hall1, ⟨X0, X1, by rw [hc2]; exact XV, N7.now, ?_, ?_, DB, GV⟩⟩
            · rw [HY1.out]; unfold IOwn; rw [List.map_append]; exact O2
            · rw [HT1.out]; exact iarg_one XT (by omega) (by omega)
      · simp only [List.getElem_toArray, List.getElem_cons_succ, List.getElem_cons_zero]
        rw [if_pos (by rfl)]
        go_wp2_with fail
        have XT := blk_new wA 3 #[.int .i64 tk]
        have EB1 : Below wA.heap.size wA (wA.alloc (.cells #[.int .i64 tk] 3)) := (Below.refl _ _).alloc (Nat.le_refl _) _
        generalize hn1 : wA.alloc (.cells #[.int .i64 tk] 3) = wB1 at *
        replace X0 := X0.below EB1
        replace X1 := X1.below EB1
        replace XV := XV.below EB1
        replace XB := XB.below EB1
        replace OY := owns_below OY EB1
        replace N7 := N7.below EB1
        replace DB := below_then DB EB1
        have zwB1 := EB1.size
        refine hKc.out _ _ XB (fun hHeld => ?_)
        clear hKc Kc hn1
        refine wpAnyH_ready (rs := [3]) (by kernel_rfl) (by simp) ?_
        refine AllReadyH.cons rfl (fun Kc hKc => ?_) AllReadyH.nil
        simp only [List.getElem_toArray, List.getElem_cons_succ, List.getElem_cons_zero]
        rw [if_pos (by rfl)]
        go_wp2_with fail
        have XQ := blk_new wB1 3 #[.int .i64 tk]
        have EB2 : Below wB1.heap.size wB1 (wB1.alloc (.cells #[.int .i64 tk] 3)) := (Below.refl _ _).alloc (Nat.le_refl _) _
        generalize hn2 : wB1.alloc (.cells #[.int .i64 tk] 3) = wB2 at *
        replace X0 := X0.below EB2
        replace X1 := X1.below EB2
        replace XV := XV.below EB2
        replace XB := XB.below EB2
        replace OY := owns_below OY EB2
        replace N7 := N7.below EB2
        replace XT := XT.below EB2
        replace DB := below_then DB EB2
        have zwB2 := EB2.size
        refine hKc.out _ _ XB (fun hHeld => ?_)
        clear hKc Kc hn2
        refine wpAnyH_ready (rs := [4]) (by kernel_rfl) (by simp) ?_
        refine AllReadyH.cons rfl (fun Kc hKc => ?_) AllReadyH.nil
        simp only [List.getElem_toArray, List.getElem_cons_succ, List.getElem_cons_zero]
        rw [if_pos (by rfl)]
        have hxq : ∀ jj u, ([tk].map (Value.int .i64))[jj]? = some u → wB2.cell? ((Addr.mk (wB1.heap.size) 0 none).add jj) = some u := one_int (XQ.cell 0 rfl)
        refine wp_append_own wB2 _ _ 30 rfl (w3.heap.size + 1) 3 i0 (.int .i64 0) 1 8 Tryz.underlying30 hi hz0 hz1 hz2 rfl (by decide) _ j _ rfl OY ⟨wB1.heap.size, 0, none⟩ 1 1 ([tk].map (Value.int .i64)) rfl rfl hxq (ints_oneCell _ _) (by unfold maxLen; omega) (by omega) (by omega) ?_
        intro v' wB3 O2 G2 N2
        obtain ⟨ya2, yc2, rfl⟩ := owns_slice O2
        have hown : ∀ b, Value.ownBlock (.slice ya j yc) = some b → w3.heap.size + 1 ≤ b ∧ b < wr.heap.size := fun b hb => ⟨(OY.lt b hb).1, lty b hb⟩
        replace X0 := Blk.of_block X0 (G2.block _ X0.lt (fun h => by have := hown _ h.symm; omega))
        replace X1 := Blk.of_block X1 (G2.block _ X1.lt (fun h => by have := hown _ h.symm; omega))
        replace XV := Blk.of_block XV (G2.block _ XV.lt (fun h => by have := hown _ h.symm; omega))
        replace XB := Blk.of_block XB (G2.block _ XB.lt (fun h => by have := hown _ h.symm; omega))
        replace N7 := Hangs.grown N7 G2 (fun b hb h => by have := hown b h.symm; omega)
        replace XT := Blk.of_block XT (G2.block _ XT.lt (fun h => by have := hown _ h.symm; omega))
        clear XQ
        replace DB := DB.grown G2 DB.size (fun k hk => by have := hown k hk; omega)
        have zwB3 := G2.size
        refine hKc.out _ _ XB (fun hHeld => ?_)
        clear hKc Kc hxq
        refine wpAnyH_ready (rs := [7]) (by kernel_rfl) (by simp) ?_
        refine AllReadyH.cons rfl (fun Kc hKc => ?_) AllReadyH.nil
        simp only [List.getElem_toArray, List.getElem_cons_succ, List.getElem_cons_zero]
        rw [if_pos (by rfl)]
        refine wp_store_row 58 _ _ rfl w3.heap.size cw rfl rfl 58 _ XV (by rw [siv2]; exact Tryz.infoV) (by rw [siv, siv2]) one2 ?_
        have so4 : ∀ b, b ≠ w3.heap.size → (wB3.setRow w3.heap.size cw).heap[b]? = wB3.heap[b]? := fun b hb => setRow_other _ _ _ _ hb
        replace XV := XV.row cw
        have zs4 : (wB3.setRow w3.heap.size cw).heap.size = wB3.heap.size := by simp [World.setRow]
        replace X0 := Blk.of_block X0 (so4 _ (by omega))
        replace X1 := Blk.of_block X1 (so4 _ (by omega))
        replace XB := Blk.of_block XB (so4 _ (by omega))
        replace N7 := Hangs.row N7 (g := w3.heap.size) (by show ¬ (wr.heap.size ≤ w3.heap.size); omega) cw
        replace XT := Blk.of_block XT (so4 _ (by omega))
        replace O2 := owns_mono O2 (Nat.le_refl _) (fun b hb => so4 b (by have := (O2.lt b hb).1; omega))
        replace DB := below_setRow DB (show w.heap.size ≤ w3.heap.size by omega) cw
        generalize hn4 : wB3.setRow w3.heap.size cw = wB4 at *
        refine hKc.out _ _ XB (fun hHeld => ?_)
        clear hKc Kc hn4 so4
        refine wpAnyH_take (i := 8) (v := (.slice ya2 (j + 1) yc2)) rfl (by kernel_rfl) (by kernel_rfl) (by kernel_rfl) (fun _ _ _ h => h) (Or.inl ⟨by rfl, ?_⟩) (by assumption) ?_
        · intro w' hSw
          go_simp
        simp only [List.getElem_toArray, List.getElem_cons_succ, List.getElem_cons_zero, Act.put, List.setIfInBounds_toArray, List.set_cons_zero, List.set_cons_succ]
        refine wpAnyH_take (i := 9) (v := (.slice (some ⟨wA.heap.size, 0, none⟩) 1 1)) rfl (by kernel_rfl) (by kernel_rfl) (by kernel_rfl) (fun _ _ _ h => h) (Or.inl ⟨by rfl, ?_⟩) (by assumption) ?_
        · intro w' hSw
          go_simp
        simp only [List.getElem_toArray, List.getElem_cons_succ, List.getElem_cons_zero, Act.put, List.setIfInBounds_toArray, List.set_cons_zero, List.set_cons_succ]
        refine wpAnyH_done (by kernel_rfl) ?_ _
        go_wp2_with fail
        go_roundg (most.toNat + 1 - (j + 1))
        case measure => omega
        case rel =>
          refine ⟨j + 1, v2, ya2, some ⟨wA.heap.size, 0, none⟩, yc2, 1, 1, by omega, rfl, rfl, rfl, hall1, ⟨X0, X1, by rw [hc2]; exact XV, N7.now, ?_, ?_, DB, GV⟩⟩
          · rw [HY1.out]; unfold IOwn; rw [List.map_append]; exact O2
          · rw [HT1.out]; exact iarg_one XT (by omega) (by omega)
end Go.Proofs.YtahfdbblndphaaaGreatDoor

/- An answer, token by token: what is fed in parts is what is fed at once. -/
namespace Go.Proofs.YtahfdbblndphaaaGreatDoor
open Go.ChangeShapes Go.WideShapes Go.ChangeAt Go.RowKit
theorem feedAll_append (M : Mdl) (D H Hd L : Nat) (X : Vw) (A B : List Int) : feedAll M D H Hd L X (A ++ B) = feedAll M D H Hd L (feedAll M D H Hd L X A) B := by
  unfold feedAll
  rw [List.foldl_append]
theorem lik_split (M : Mdl) (V D H Hd L : Nat) (Q T : List Int) (hT : T ≠ []) : likAt M V D H Hd L (feedAll M D H Hd L noX Q) T T.length = likAt M V D H Hd L noX (Q ++ T) (Q ++ T).length := by
  obtain ⟨m, hm⟩ : ∃ m, T.length = m + 1 := ⟨T.length - 1, by have := List.length_pos_iff.2 hT; omega⟩
  have h2 : (Q ++ T).length = (Q.length + m) + 1 := by rw [List.length_append, hm]; omega
  rw [hm, h2]
  show likR M V D (feedX M D H Hd L (feedAll M D H Hd L (feedAll M D H Hd L noX Q) (T.take m)) (el T m).toNat) = likR M V D (feedX M D H Hd L (feedAll M D H Hd L noX ((Q ++ T).take (Q.length + m))) (el (Q ++ T) (Q.length + m)).toNat)
  have et : (Q ++ T).take (Q.length + m) = Q ++ T.take m := by rw [List.take_append, List.take_of_length_le (by omega : Q.length ≤ Q.length + m), Nat.add_sub_cancel_left]
  rw [el_append_right, et, ← feedAll_append]
/-- The token that is liked best behind a row of them. -/
def nextT (M : Mdl) (V D H Hd L : Nat) (A : List Int) : Int := amax (likAt M V D H Hd L noX A A.length) V
def runY (M : Mdl) (V D H Hd L : Nat) (P : List Int) : Nat → List Int
  | 0 => []
  | j + 1 => runY M V D H Hd L P j ++ [nextT M V D H Hd L (P ++ runY M V D H Hd L P j)]
theorem runS_inv (M : Mdl) (V D H Hd L : Nat) (P : List Int) (hP : P ≠ []) : ∀ j, (runS M V D H Hd L P j).Y = runY M V D H Hd L P j ∧ (runS M V D H Hd L P j).T ≠ [] ∧ ∃ Q, (runS M V D H Hd L P j).X = feedAll M D H Hd L noX Q ∧ Q ++ (runS M V D H Hd L P j).T = P ++ (runS M V D H Hd L P j).Y
  | 0 => ⟨rfl, hP, [], rfl, by show [] ++ P = P ++ []; simp⟩
  | j + 1 => by
    obtain ⟨h1, h2, Q, h3, h4⟩ := runS_inv M V D H Hd L P hP j
    have e : likAt M V D H Hd L (runS M V D H Hd L P j).X (runS M V D H Hd L P j).T (runS M V D H Hd L P j).T.length = likAt M V D H Hd L noX (P ++ runY M V D H Hd L P j) (P ++ runY M V D H Hd L P j).length := by
      rw [h3, lik_split M V D H Hd L Q _ h2, h4, h1]
    have eY : (runS M V D H Hd L P (j + 1)).Y = runY M V D H Hd L P j ++ [nextT M V D H Hd L (P ++ runY M V D H Hd L P j)] := by
      show (runS M V D H Hd L P j).Y ++ [amax _ V] = _
      rw [e, h1]
      rfl
    have eT : (runS M V D H Hd L P (j + 1)).T = [nextT M V D H Hd L (P ++ runY M V D H Hd L P j)] := by
      show [amax _ V] = _
      rw [e]
      rfl
    refine ⟨eY, by rw [eT]; simp, P ++ runY M V D H Hd L P j, ?_, ?_⟩
    · show feedAll M D H Hd L (runS M V D H Hd L P j).X (runS M V D H Hd L P j).T = _
      rw [h3, ← feedAll_append, h4, h1]
    · rw [eT, eY, List.append_assoc]
theorem runY_len (M : Mdl) (V D H Hd L : Nat) (P : List Int) : ∀ j, (runY M V D H Hd L P j).length = j
  | 0 => rfl
  | j + 1 => by
    show (runY M V D H Hd L P j ++ [nextT M V D H Hd L (P ++ runY M V D H Hd L P j)]).length = _
    rw [List.length_append, runY_len M V D H Hd L P j]
    rfl
theorem runY_take (M : Mdl) (V D H Hd L : Nat) (P : List Int) (n : Nat) : ∀ i, (runY M V D H Hd L P (n + i)).take n = runY M V D H Hd L P n
  | 0 => by rw [Nat.add_zero]; exact List.take_of_length_le (by rw [runY_len]; omega)
  | i + 1 => by
    show (runY M V D H Hd L P (n + i) ++ [_]).take n = _
    rw [List.take_append_of_le_length (by rw [runY_len]; omega)]
    exact runY_take M V D H Hd L P n i
theorem runY_shift (M : Mdl) (V D H Hd L : Nat) (P : List Int) (n : Nat) : ∀ i, runY M V D H Hd L (P ++ runY M V D H Hd L P n) i = (runY M V D H Hd L P (n + i)).drop n
  | 0 => by rw [Nat.add_zero, List.drop_of_length_le (by rw [runY_len]; omega)]; rfl
  | i + 1 => by
    have ih := runY_shift M V D H Hd L P n i
    show runY M V D H Hd L (P ++ runY M V D H Hd L P n) i ++ [_] = (runY M V D H Hd L P (n + i) ++ [_]).drop n
    rw [List.drop_append_of_le_length (by rw [runY_len]; omega), ih]
    have e : P ++ runY M V D H Hd L P n ++ (runY M V D H Hd L P (n + i)).drop n = P ++ runY M V D H Hd L P (n + i) := by
      rw [List.append_assoc, ← runY_take M V D H Hd L P n i, List.take_append_drop]
    rw [e]
    rfl
theorem runY_toks (M : Mdl) {V D H Hd L : Nat} (hV : 1 ≤ V) (P : List Int) : ∀ j, (runY M V D H Hd L P j).all (tokB V) = true
  | 0 => rfl
  | j + 1 => by
    show (runY M V D H Hd L P j ++ [_]).all (tokB V) = true
    rw [List.all_append, runY_toks M hV P j, Bool.true_and]
    simp only [List.all_cons, List.all_nil, Bool.and_true]
    unfold tokB nextT
    exact decide_eq_true (amax_tok _ hV)
/-- The answer's length: the first at which it is over. -/
theorem run_first {M : Mdl} {V D H Hd L : Nat} {P : List Int} {most n : Int} {j : Nat} (h2 : ∀ i, i < j → overB (runY M V D H Hd L P i) most = false) {m : Nat} (hn : n = m) (hm : m ≤ j) {i : Nat} (k1 : overB (runY M V D H Hd L P i) n = true) (k2 : ∀ t, t < i → overB (runY M V D H Hd L P t) n = false) : i = m := by
  have e : ∀ t, t < m → overB (runY M V D H Hd L P t) n = false := fun t ht => by
    have := h2 t (by omega)
    unfold overB at this ⊢
    rw [Bool.or_eq_false_iff] at this ⊢
    exact ⟨decide_eq_false (by rw [runY_len]; omega), this.2⟩
  have e2 : overB (runY M V D H Hd L P m) n = true := by unfold overB; rw [decide_eq_true (by rw [runY_len]; omega)]; rfl
  rcases Nat.lt_trichotomy i m with h | h | h
  · rw [e i h] at k1; cases k1
  · exact h
  · rw [k2 m h] at e2; cases e2
/-- The end of an answer that was gone on from. -/
theorem over_drop {M : Mdl} {V D H Hd L : Nat} {P : List Int} {most : Int} {n i : Nat} (hi : 1 ≤ i) : overB ((runY M V D H Hd L P (n + i)).drop n) (most - n) = overB (runY M V D H Hd L P (n + i)) most := by
  have hl : ((runY M V D H Hd L P (n + i)).drop n).length = i := by rw [List.length_drop, runY_len]; omega
  have hl2 := runY_len M V D H Hd L P (n + i)
  unfold overB endB
  rw [hl, hl2, el_drop]
  have e1 : decide (most - (n : Int) ≤ (i : Int)) = decide (most ≤ ((n + i : Nat) : Int)) := by
    by_cases h : most - (n : Int) ≤ (i : Int)
    · rw [decide_eq_true h, decide_eq_true (by omega)]
    · rw [decide_eq_false h, decide_eq_false (by omega)]
  rw [e1, decide_eq_true (by omega : 0 < i), decide_eq_true (by omega : 0 < n + i), show n + (i - 1) = n + i - 1 by omega]
end Go.Proofs.YtahfdbblndphaaaGreatDoor

/- The document's errors of prompts and requests, and its ends. -/
namespace Go.Proofs.YtahfdbblndphaaaGreatDoor
open Go.ChangeShapes Go.WideShapes Go.ChangeAt Go.RowKit
theorem refPrompt_any (V D Hd H L : Int) (ao : Option Addr) (n ca : Nat) (A : List Int) (w : World) (hA : IArg w ao n ca A) :
   Calls Tryz.prog 23 #[.agg (cfgC V D Hd H L), .slice ao n ca] w fun e w' => e = .returned (.int .i64 (promptN V A)) ∧ Below w.heap.size w w' := by
  have hl := hA.row.len
  have hm := hA.row.max
  have X0 := blk_new w 23 (cfgC V D Hd H L)
  have B0 : Below w.heap.size w (w.alloc (.cells (cfgC V D Hd H L) 23)) := (Below.refl _ _).alloc (Nat.le_refl _) _
  unfold cfgC at *
  generalize hw0 : w.alloc (.cells #[.int .i64 V, .int .i64 D, .int .i64 Hd, .int .i64 H, .int .i64 L] 23) = w0 at *
  have a0 : w0.cell? ⟨w.heap.size, 0, none⟩ = some (.int .i64 V) := X0.cell 0 rfl
  have R := hA.row.below B0
  clear hA
  have HN : Hid (promptN V A = if A.length = 0 then 8 else if 128 < A.length then 2 else if A.all (tokB V) = true then 0 else 7) := rfl
  generalize promptN V A = res at *
  by_cases h0 : n = 0
  · subst h0
    have HF : Hid (res = 8) := by show _ = _; rw [HN.out, hl]; rfl
    clear HN
    go_enter Tryz.func23, Tryz.ntmps23
    go_wp2
    go_ret
    exact ⟨ret_int HF.out.symm, B0⟩
  · by_cases h1 : 128 < n
    · have hz0 : ¬ ((n : Int) < 1) := by omega
      have HF : Hid (res = 2) := by show _ = _; rw [HN.out, hl, if_neg h0, if_pos h1]
      clear HN
      go_enter Tryz.func23, Tryz.ntmps23
      go_wp2
      go_ret
      exact ⟨ret_int HF.out.symm, B0⟩
    · have HF : Hid (res = if A.all (tokB V) = true then 0 else 7) := by show _ = _; rw [HN.out, hl, if_neg h0, if_neg h1]
      clear HN
      obtain ⟨b, o, rfl, hc⟩ := R.cells (by omega)
      have hz0 : ¬ ((n : Int) < 1) := by omega
      go_enter Tryz.func23, Tryz.ntmps23
      go_wp2_with fail
      go_loopg [15] n (fun r i wr => ∃ k : Nat, k ≤ n ∧ r = n - k ∧ i = .int .i64 k ∧ (A.take k).all (tokB V) = true ∧ wr = w0)
      case atStart => exact ⟨0, by omega, by omega, rfl, rfl, rfl⟩
      case round =>
        obtain ⟨k, hk, rfl, rfl, hall, rfl⟩ := hrel
        by_cases hlt : k < n
        · have ck := hc k hlt
          have sx := R.small k
          have HS : Hid ((A.take (k + 1)).all (tokB V) = ((A.take k).all (tokB V) && tokB V (el A k))) := all_take_el (by omega)
          have HB : Hid (tokB V (el A k) = false → A.all (tokB V) = false) := fun h => all_not (by omega) h
          have HT : Hid (tokB V (el A k) = decide (0 ≤ el A k ∧ el A k < V)) := rfl
          clear hc
          generalize el A k = x at *
          by_cases h2 : x < 0
          · have HR : Hid (res = 7) := by show _ = _; rw [HF.out, HB.out (by rw [HT.out]; exact decide_eq_false (by omega))]; rfl
            clear HF HS HB HT
            go_wp2
            go_ret
            exact ⟨ret_int HR.out.symm, B0⟩
          · by_cases h3 : V ≤ x
            · have HR : Hid (res = 7) := by show _ = _; rw [HF.out, HB.out (by rw [HT.out]; exact decide_eq_false (by omega))]; rfl
              clear HF HS HB HT
              go_wp2
              go_ret
              exact ⟨ret_int HR.out.symm, B0⟩
            · have HA : Hid ((A.take (k + 1)).all (tokB V) = true) := by show _ = _; rw [HS.out, hall, HT.out, decide_eq_true (by omega)]; rfl
              clear HS HB HT
              go_wp2
              go_roundg (n - (k + 1))
              case measure => omega
              case rel => exact ⟨k + 1, by omega, rfl, by go_num, HA.out, rfl⟩
        · obtain rfl : k = n := by omega
          rw [← hl, List.take_length] at hall
          have HR : Hid (res = 0) := by show _ = _; rw [HF.out, hall]; rfl
          clear HF
          go_wp2
          go_ret
          exact ⟨ret_int HR.out.symm, B0⟩
theorem refAsked_any (V D Hd H L : Int) (ao : Option Addr) (n ca : Nat) (A : List Int) (most : Int) (w : World) (hA : IArg w ao n ca A) :
   Calls Tryz.prog 10 #[.agg (cfgC V D Hd H L), .slice ao n ca, .int .i64 most] w fun e w' => e = .returned (.int .i64 (askedN V A most)) ∧ Below w.heap.size w w' := by
  have hl := hA.row.len
  have X0 := blk_new w 23 (cfgC V D Hd H L)
  have B0 : Below w.heap.size w (w.alloc (.cells (cfgC V D Hd H L) 23)) := (Below.refl _ _).alloc (Nat.le_refl _) _
  have CP := fun (wv : World) (hb : Below w.heap.size w wv) => refPrompt_any V D Hd H L ao n ca A wv (hA.below hb)
  have HP : Hid (promptN V A = 0 → n ≤ 128) := fun h => by have := prompt_ok h; omega
  have HN : Hid (askedN V A most = if promptN V A ≠ 0 then promptN V A else if most < 1 then 1 else if 128 - (n : Int) < most then 2 else 0) := by show _ = _; unfold askedN; rw [hl]
  generalize askedN V A most = res at *
  generalize promptN V A = q at *
  unfold cfgC at *
  generalize hw0 : w.alloc (.cells #[.int .i64 V, .int .i64 D, .int .i64 Hd, .int .i64 H, .int .i64 L] 23) = w0 at *
  have a0 : w0.cell? ⟨w.heap.size, 0, none⟩ = some (.int .i64 V) := X0.cell 0 rfl
  have a1 : w0.cell? ⟨w.heap.size, 1, none⟩ = some (.int .i64 D) := X0.cell 1 rfl
  have a2 : w0.cell? ⟨w.heap.size, 2, none⟩ = some (.int .i64 Hd) := X0.cell 2 rfl
  have a3 : w0.cell? ⟨w.heap.size, 3, none⟩ = some (.int .i64 H) := X0.cell 3 rfl
  have a4 : w0.cell? ⟨w.heap.size, 4, none⟩ = some (.int .i64 L) := X0.cell 4 rfl
  clear hA
  go_enter Tryz.func10, Tryz.ntmps10
  go_wp2_with fail
  refine (CP _ B0).mono ?_
  rintro e w1 ⟨rfl, B1⟩
  have D1 := below_then B0 B1
  clear a0 a1 a2 a3 a4 hw0 CP
  by_cases hq : q = 0
  · subst hq
    have hn := HP.out rfl
    by_cases h1 : most < 1
    · have HF : Hid (res = 1) := by show _ = _; rw [HN.out, if_neg (by simp), if_pos h1]
      clear HN
      go_wp2
      go_ret
      exact ⟨ret_int HF.out.symm, D1⟩
    · by_cases h2 : 128 - (n : Int) < most
      · have HF : Hid (res = 2) := by show _ = _; rw [HN.out, if_neg (by simp), if_neg h1, if_pos h2]
        clear HN
        by_cases h3 : 128 < most
        · go_wp2
          go_ret
          exact ⟨ret_int HF.out.symm, D1⟩
        · have ew : IntKind.i64.wrap ((n : Int) + most) = (n : Int) + most := wrap_in (by omega)
          have h4 : 128 < (n : Int) + most := by omega
          go_wp2
          go_ret
          exact ⟨ret_int HF.out.symm, D1⟩
      · have HF : Hid (res = 0) := by show _ = _; rw [HN.out, if_neg (by simp), if_neg h1, if_neg h2]
        have ew : IntKind.i64.wrap ((n : Int) + most) = (n : Int) + most := wrap_in (by omega)
        have h3 : ¬ 128 < most := by omega
        have h4 : ¬ 128 < (n : Int) + most := by omega
        clear HN
        go_wp2
        go_ret
        exact ⟨ret_int HF.out.symm, D1⟩
  · have HF : Hid (res = q) := by show _ = _; rw [HN.out, if_pos hq]
    have hq' : (q == 0) = false := by simpa using hq
    clear HN
    go_wp2
    go_ret
    exact ⟨ret_int HF.out.symm, D1⟩
theorem refOver_any (ao : Option Addr) (n ca : Nat) (A : List Int) (most : Int) (w : World) (hA : IRowAt w ao n A) :
   Calls Tryz.prog 25 #[.slice ao n ca, .int .i64 most] w fun e w' => e = .returned (.bool (overB A most)) ∧ w' = w := by
  have hl := hA.len
  have hm := hA.max
  have HE : Hid (overB A most = (decide (most ≤ (n : Int)) || (decide (0 < n) && decide (el A (n - 1) = 0)))) := by show _ = _; unfold overB endB; rw [hl]
  generalize overB A most = res at *
  by_cases h0 : most ≤ (n : Int)
  · have HF : Hid (res = true) := by show _ = _; rw [HE.out, decide_eq_true h0]; rfl
    clear HE
    go_enter Tryz.func25, Tryz.ntmps25
    go_wp2
    go_ret
    exact ⟨by rw [HF.out]; rfl, rfl⟩
  · by_cases h1 : n = 0
    · subst h1
      have HF : Hid (res = false) := by show _ = _; rw [HE.out, decide_eq_false h0]; rfl
      have h9 : decide (most ≤ (0 : Int)) = false := decide_eq_false (by omega)
      clear HE
      go_enter Tryz.func25, Tryz.ntmps25
      go_wp2
      go_ret
      exact ⟨by rw [HF.out]; rfl, rfl⟩
    · obtain ⟨b, o, rfl, hc⟩ := hA.cells (by omega)
      obtain ⟨m, rfl⟩ : ∃ m, n = m + 1 := ⟨n - 1, by omega⟩
      have hc0 := hc m (by omega)
      have e1 : IntKind.i64.wrap (((m : Int) + 1) - 1) = (m : Int) := by rw [show ((m : Int) + 1) - 1 = m by omega]; exact wrap_in (by omega)
      have HE2 : Hid (res = decide (el A m = 0)) := by show _ = _; rw [HE.out, decide_eq_false h0, decide_eq_true (by omega), Bool.true_and, Bool.false_or]; rfl
      clear HE hc hl
      generalize el A m = x at *
      by_cases hx : x = 0
      · subst hx
        have HF : Hid (res = true) := by show _ = _; rw [HE2.out]; simp
        clear HE2
        go_enter Tryz.func25, Tryz.ntmps25
        go_wp2
        go_ret
        exact ⟨by rw [HF.out]; rfl, rfl⟩
      · have HF : Hid (res = false) := by show _ = _; rw [HE2.out, decide_eq_false hx]
        have h9 : decide (most ≤ (m : Int) + 1) = false := decide_eq_false (by omega)
        have hx' : (x == 0) = false := by simpa using hx
        clear HE2
        go_enter Tryz.func25, Tryz.ntmps25
        go_wp2
        go_ret
        exact ⟨by rw [HF.out]; rfl, rfl⟩
end Go.Proofs.YtahfdbblndphaaaGreatDoor

/- The awake check of the laws of layer 5 is true, and the document's error of a row, where the table of steps lies as the program's text lays it. -/
namespace Go.Proofs.YtahfdbblndphaaaGreatDoor
open Go.ChangeShapes Go.WideShapes Go.ChangeAt Go.RowKit
theorem wgt_lit0 : wgt [0, -65536] 2 0 = 43690 := by decide
theorem wgt_lit1 : wgt [0, -65536] 2 1 = 21845 := by decide
theorem mean_lit : meanN [65536, 65536] 2 = 65536 := by decide
end Go.Proofs.YtahfdbblndphaaaGreatDoor
