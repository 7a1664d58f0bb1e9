/- Contracts of the program's functions, part 8 of 10: what each call returns and leaves of memory. -/
import Derived.Test.YtmdjlaileakbeaaDoorPk6
import Derived.Test.YtmdjlaileakbeaaDoorPk7
/- Package step: Feed: a token more. -/
namespace Go.Proofs.YtmdjlaileakbeaaDoor
open Go.ChangeShapes Go.WideShapes Go.ChangeAt Go.RowKit
/-- A model's numbers that fit their configuration. -/
structure Good (w : World) (V D Hd H L : Nat) (W : Wt) (bs : List Bk) (M : Mdl) : Prop where
  wt : WtAt w V D H W bs M
  ok : W.Ok
  len : bs.length = L
  shape : shapeN V D Hd H L = 0
  chk : checkN V D Hd H L W bs = 0
theorem Good.below {w w' : World} {V D Hd H L : Nat} {W : Wt} {bs : List Bk} {M : Mdl} (h : Good w V D Hd H L W bs M) (hb : Below w.heap.size w w') : Good w' V D Hd H L W bs M := ⟨h.wt.below hb, h.ok, h.len, h.shape, h.chk⟩
theorem shape_mod {V D Hd H L : Nat} (h : shapeN V D Hd H L = 0) : D % Hd = 0 := by
  have hk := shape_ok h
  unfold shapeN at h
  rw [if_neg (by omega), if_neg (by omega)] at h
  have h9 : (D : Int).tmod (Hd : Int) = 0 := by simpa using h
  have h8 := Int.ofNat_tmod D Hd
  omega
theorem check_good {w : World} {V D Hd H L : Nat} {W : Wt} {bs : List Bk} {M : Mdl} (h : Good w V D Hd H L W bs M) :
   Calls Tryd.prog 27 #[.agg (cfgC V D Hd H L), .agg W.cells] w fun e w' => e = .returned (.int .i64 0) ∧ Below w.heap.size w w' := by
  have hk := shape_ok h.shape
  have := mcheck_any ⟨V, D, Hd, H, L⟩ ⟨i64_nat (by omega), i64_nat (by omega), i64_nat (by omega), i64_nat (by omega), i64_nat (by omega)⟩ W bs w h.ok h.wt.b
  rw [h.chk] at this
  exact this
theorem fit_feed {M : Mdl} {V D H Hd L : Nat} {X : Vw} {tok : Nat} (hf : VwFit V D L X) (ht : tok < V) (hl : X.T.length ≤ 127) : VwFit V D L (feedV M D H Hd L X tok) := by
  have kl : ∀ l, l < L → (X.K.getD l []).length = X.T.length ∧ ∀ t, t < X.T.length → (rowOf (X.K.getD l []) t).length = D := fun l h => fit_list hf.k hf.ks h
  have vl : ∀ l, l < L → (X.V.getD l []).length = X.T.length ∧ ∀ t, t < X.T.length → (rowOf (X.V.getD l []) t).length = D := fun l h => fit_list hf.v hf.vs h
  have tl : (feedV M D H Hd L X tok).T.length = X.T.length + 1 := by unfold feedV; simp
  refine ⟨by rw [tl]; omega, ?_, ?_, ?_, ?_, ?_⟩
  · unfold feedV
    simp only [List.all_append, hf.toks, Bool.true_and, List.all_cons, List.all_nil, Bool.and_true]
    unfold tokB
    exact decide_eq_true (by omega)
  · rw [tl, if_neg (by omega)]; unfold feedV newK; simp
  · rw [tl, if_neg (by omega)]; unfold feedV newV; simp
  · intro R hR
    rw [tl]
    unfold feedV newK at hR
    simp only [List.mem_map, List.mem_range] at hR
    obtain ⟨l, h1, rfl⟩ := hR
    obtain ⟨q1, q2⟩ := kl l h1
    exact ⟨by rw [List.length_append, q1]; rfl, rowOf_snoc_len q1 q2 (apl_len _ _ _ _)⟩
  · intro R hR
    rw [tl]
    unfold feedV newV at hR
    simp only [List.mem_map, List.mem_range] at hR
    obtain ⟨l, h1, rfl⟩ := hR
    obtain ⟨q1, q2⟩ := vl l h1
    exact ⟨by rw [List.length_append, q1]; rfl, rowOf_snoc_len q1 q2 (apl_len _ _ _ _)⟩
theorem results_blk3 {fn : Func} {p u v : Tmp} {ty : TypeId} (h : fn.results = #[.cell p ty, .tmp u, .tmp v]) (tmps : Array Value) (w : World) (g : Nat) (cs : Array Value)
    (hp : tmps.getD p undef = .pointer (some ⟨g, 0, none⟩)) (hl : (loadVar ty ⟨g, 0, none⟩).run Tryd.prog w = .ok (.agg cs) w) :
    (results fn tmps).run Tryd.prog w = .ok (.tuple #[.agg cs, tmps.getD u undef, tmps.getD v undef]) w := by
  have hp' : tmps[p]?.getD undef = .pointer (some ⟨g, 0, none⟩) := by simpa using hp
  simp [results, h, hp', asAddr, hl]
theorem load_v {w : World} {g : Nat} {cs : Array Value} (h : Blk w g 27 cs) (hs : cs.size = 3) : (loadVar 27 ⟨g, 0, none⟩).run Tryd.prog w = .ok (.agg cs) w :=
  run_loadVar_row w g _ _ cs _ _ h Tryd.underlying27 rfl (by rw [hs]; exact Tryd.infoV)
/-- The cells of no view. -/
def noV : Array Value := #[.slice none 0 0, .slice none 0 0, .slice none 0 0]
set_option maxRecDepth 100000 in
set_option maxHeartbeats 800000 in
theorem feed_big (V D Hd H L : Nat) (W : Wt) (bs : List Bk) (M : Mdl) (v : VwV) (X : Vw) (tok : Int) (w : World) (hb : X.T.length = 128) (hG : Good w V D Hd H L W bs M) (hv : VwAt w v X) (hf : VwFit V D L X) :
   Calls Tryd.prog 14 #[.agg (cfgC V D Hd H L), .agg W.cells, .agg v.cells, .int .i64 tok] w fun e w' => e = .returned (.tuple #[.agg noV, .slice none 0 0, .int .i64 2]) ∧ Below w.heap.size w w' := by
  obtain ⟨q1, q2, q3, q4, q5, q6, q7, q8, q9, q10⟩ := shape_ok hG.shape
  have hlen := hv.t.row.len
  have most := hf.most
  have CK := fun (wv : World) (hb : Below w.heap.size w wv) => check_good (hG.below hb)
  have CF := fun (wv : World) (hb : Below w.heap.size w wv) => sfits_ok V D Hd H L v X wv (hv.below hb) hf (by omega)
  obtain ⟨⟨ta, n, tz⟩, ⟨ka, kn, kz⟩, ⟨va, vn, vz⟩⟩ := v
  simp only at hlen
  unfold VwV.cells Sl.v cfgC at CF
  unfold cfgC at CK
  simp only at CF
  show Calls Tryd.prog 14 #[.agg #[.int .i64 (V : Int), .int .i64 (D : Int), .int .i64 (Hd : Int), .int .i64 (H : Int), .int .i64 (L : Int)], .agg W.cells, .agg #[.slice ta n tz, .slice ka kn kz, .slice va vn vz], .int .i64 tok] w _
  have siz : W.cells.size = 8 := rfl
  generalize hws : W.cells = ws at *
  have X0 := blk_new w 41 #[.int .i64 (V : Int), .int .i64 (D : Int), .int .i64 (Hd : Int), .int .i64 (H : Int), .int .i64 (L : Int)]
  have B0 : Below w.heap.size w (w.alloc (.cells #[.int .i64 (V : Int), .int .i64 (D : Int), .int .i64 (Hd : Int), .int .i64 (H : Int), .int .i64 (L : Int)] 41)) := (Below.refl _ _).alloc (Nat.le_refl _) _
  have s0 : (w.alloc (.cells #[.int .i64 (V : Int), .int .i64 (D : Int), .int .i64 (Hd : Int), .int .i64 (H : Int), .int .i64 (L : Int)] 41)).heap.size = w.heap.size + 1 := by simp
  generalize hw0 : w.alloc (.cells #[.int .i64 (V : Int), .int .i64 (D : Int), .int .i64 (Hd : Int), .int .i64 (H : Int), .int .i64 (L : Int)] 41) = w0 at *
  have X1 := blk_new w0 47 ws
  have B1 : Below w0.heap.size w0 (w0.alloc (.cells ws 47)) := (Below.refl _ _).alloc (Nat.le_refl _) _
  have s1 : (w0.alloc (.cells ws 47)).heap.size = w0.heap.size + 1 := by simp
  rw [s0] at X1 s1
  generalize hw1 : w0.alloc (.cells ws 47) = w1 at *
  have X2 := blk_new w1 27 #[.slice ta n tz, .slice ka kn kz, .slice va vn vz]
  have B2 : Below w1.heap.size w1 (w1.alloc (.cells #[.slice ta n tz, .slice ka kn kz, .slice va vn vz] 27)) := (Below.refl _ _).alloc (Nat.le_refl _) _
  have s2 : (w1.alloc (.cells #[.slice ta n tz, .slice ka kn kz, .slice va vn vz] 27)).heap.size = w1.heap.size + 1 := by simp
  rw [s1] at X2 s2
  generalize hw2 : w1.alloc (.cells #[.slice ta n tz, .slice ka kn kz, .slice va vn vz] 27) = w2 at *
  have X3 := blk_new w2 27 #[.slice none 0 0, .slice none 0 0, .slice none 0 0]
  have B3 : Below w2.heap.size w2 (w2.alloc (.cells #[.slice none 0 0, .slice none 0 0, .slice none 0 0] 27)) := (Below.refl _ _).alloc (Nat.le_refl _) _
  have s3 : (w2.alloc (.cells #[.slice none 0 0, .slice none 0 0, .slice none 0 0] 27)).heap.size = w2.heap.size + 1 := by simp
  rw [s2] at X3 s3
  generalize hw3 : w2.alloc (.cells #[.slice none 0 0, .slice none 0 0, .slice none 0 0] 27) = w3 at *
  replace X0 := ((X0.below B1).below B2).below B3
  replace X1 := (X1.below B2).below B3
  replace X2 := X2.below B3
  replace B3 := below_then (below_then (below_then B0 B1) B2) B3
  have hn : (128 : Int) ≤ (n : Int) := by omega
  have a0 : w3.cell? ⟨w.heap.size, 0, none⟩ = some (.int .i64 (V : Int)) := X0.cell 0 rfl
  have a1 : w3.cell? ⟨w.heap.size, 1, none⟩ = some (.int .i64 (D : Int)) := X0.cell 1 rfl
  have a2 : w3.cell? ⟨w.heap.size, 2, none⟩ = some (.int .i64 (Hd : Int)) := X0.cell 2 rfl
  have a3 : w3.cell? ⟨w.heap.size, 3, none⟩ = some (.int .i64 (H : Int)) := X0.cell 3 rfl
  have a4 : w3.cell? ⟨w.heap.size, 4, none⟩ = some (.int .i64 (L : Int)) := X0.cell 4 rfl
  go_enter Tryd.func14, Tryd.ntmps14
  go_wp2_with (refine wpList_load_row rfl 47 _ rfl (w.heap.size + 1) rfl 47 ws (0, 0) _ X1 Tryd.underlying47 rfl (by rw [siz]; exact Tryd.infoW) ?_)
  refine (CK _ B3).mono ?_
  rintro e w4 ⟨rfl, B4⟩
  replace X0 := X0.below B4
  replace X1 := X1.below B4
  replace X2 := X2.below B4
  replace X3 := X3.below B4
  have D4 := below_then B3 B4
  clear a0 a1 a2 a3 a4 B3 B4 CK hw0 hw1 hw2 hw3 B0 B1 B2 s0 s1 s2 s3
  have a0 : w4.cell? ⟨w.heap.size, 0, none⟩ = some (.int .i64 (V : Int)) := X0.cell 0 rfl
  have a1 : w4.cell? ⟨w.heap.size, 1, none⟩ = some (.int .i64 (D : Int)) := X0.cell 1 rfl
  have a2 : w4.cell? ⟨w.heap.size, 2, none⟩ = some (.int .i64 (Hd : Int)) := X0.cell 2 rfl
  have a3 : w4.cell? ⟨w.heap.size, 3, none⟩ = some (.int .i64 (H : Int)) := X0.cell 3 rfl
  have a4 : w4.cell? ⟨w.heap.size, 4, none⟩ = some (.int .i64 (L : Int)) := X0.cell 4 rfl
  have b0 : w4.cell? ⟨w.heap.size + 1 + 1, 0, none⟩ = some (.slice ta n tz) := X2.cell 0 rfl
  have b1 : w4.cell? ⟨w.heap.size + 1 + 1, 1, none⟩ = some (.slice ka kn kz) := X2.cell 1 rfl
  have b2 : w4.cell? ⟨w.heap.size + 1 + 1, 2, none⟩ = some (.slice va vn vz) := X2.cell 2 rfl
  go_wp2_with fail
  refine (CF _ D4).mono ?_
  rintro e w5 ⟨rfl, B5⟩
  replace X0 := X0.below B5
  replace X1 := X1.below B5
  replace X2 := X2.below B5
  replace X3 := X3.below B5
  have D5 := below_then D4 B5
  clear a0 a1 a2 a3 a4 b0 b1 b2 D4 B5 CF
  have a0 : w5.cell? ⟨w.heap.size, 0, none⟩ = some (.int .i64 (V : Int)) := X0.cell 0 rfl
  have a1 : w5.cell? ⟨w.heap.size, 1, none⟩ = some (.int .i64 (D : Int)) := X0.cell 1 rfl
  have a2 : w5.cell? ⟨w.heap.size, 2, none⟩ = some (.int .i64 (Hd : Int)) := X0.cell 2 rfl
  have a3 : w5.cell? ⟨w.heap.size, 3, none⟩ = some (.int .i64 (H : Int)) := X0.cell 3 rfl
  have a4 : w5.cell? ⟨w.heap.size, 4, none⟩ = some (.int .i64 (L : Int)) := X0.cell 4 rfl
  have b0 : w5.cell? ⟨w.heap.size + 1 + 1, 0, none⟩ = some (.slice ta n tz) := X2.cell 0 rfl
  have b1 : w5.cell? ⟨w.heap.size + 1 + 1, 1, none⟩ = some (.slice ka kn kz) := X2.cell 1 rfl
  have b2 : w5.cell? ⟨w.heap.size + 1 + 1, 2, none⟩ = some (.slice va vn vz) := X2.cell 2 rfl
  have hall : Array.all (#[.slice none 0 0, .slice none 0 0, .slice none 0 0] : Array Value) (fun v => v.oneCell') = true := by simp [Value.oneCell']
  go_wp2_with (refine wpList_store_row rfl 27 _ _ rfl (w.heap.size + 1 + 1 + 1) #[.slice none 0 0, .slice none 0 0, .slice none 0 0] rfl rfl 27 _ X3 Tryd.infoV rfl hall ?_)
  refine bodyPost_ret (results_blk3 rfl _ _ (w.heap.size + 1 + 1 + 1) _ rfl (load_v (X3.row _) rfl)) rfl ?_
  exact ⟨rfl, below_setRow D5 (by omega) _⟩
set_option maxRecDepth 100000 in
set_option maxHeartbeats 800000 in
theorem feed_tok (V D Hd H L : Nat) (W : Wt) (bs : List Bk) (M : Mdl) (v : VwV) (X : Vw) (tok : Int) (w : World) (hl : X.T.length ≤ 127) (hb : tokB V tok = false) (hG : Good w V D Hd H L W bs M) (hv : VwAt w v X) (hf : VwFit V D L X) :
   Calls Tryd.prog 14 #[.agg (cfgC V D Hd H L), .agg W.cells, .agg v.cells, .int .i64 tok] w fun e w' => e = .returned (.tuple #[.agg noV, .slice none 0 0, .int .i64 7]) ∧ Below w.heap.size w w' := by
  obtain ⟨q1, q2, q3, q4, q5, q6, q7, q8, q9, q10⟩ := shape_ok hG.shape
  have hlen := hv.t.row.len
  have most := hf.most
  have CK := fun (wv : World) (hb : Below w.heap.size w wv) => check_good (hG.below hb)
  have CF := fun (wv : World) (hb : Below w.heap.size w wv) => sfits_ok V D Hd H L v X wv (hv.below hb) hf (by omega)
  have CI := fun (wv : World) => isToken_any V D Hd H L tok wv
  obtain ⟨⟨ta, n, tz⟩, ⟨ka, kn, kz⟩, ⟨va, vn, vz⟩⟩ := v
  simp only at hlen
  unfold VwV.cells Sl.v cfgC at CF
  unfold cfgC at CK CI
  simp only at CF
  show Calls Tryd.prog 14 #[.agg #[.int .i64 (V : Int), .int .i64 (D : Int), .int .i64 (Hd : Int), .int .i64 (H : Int), .int .i64 (L : Int)], .agg W.cells, .agg #[.slice ta n tz, .slice ka kn kz, .slice va vn vz], .int .i64 tok] w _
  have siz : W.cells.size = 8 := rfl
  generalize hws : W.cells = ws at *
  have X0 := blk_new w 41 #[.int .i64 (V : Int), .int .i64 (D : Int), .int .i64 (Hd : Int), .int .i64 (H : Int), .int .i64 (L : Int)]
  have B0 : Below w.heap.size w (w.alloc (.cells #[.int .i64 (V : Int), .int .i64 (D : Int), .int .i64 (Hd : Int), .int .i64 (H : Int), .int .i64 (L : Int)] 41)) := (Below.refl _ _).alloc (Nat.le_refl _) _
  have s0 : (w.alloc (.cells #[.int .i64 (V : Int), .int .i64 (D : Int), .int .i64 (Hd : Int), .int .i64 (H : Int), .int .i64 (L : Int)] 41)).heap.size = w.heap.size + 1 := by simp
  generalize hw0 : w.alloc (.cells #[.int .i64 (V : Int), .int .i64 (D : Int), .int .i64 (Hd : Int), .int .i64 (H : Int), .int .i64 (L : Int)] 41) = w0 at *
  have X1 := blk_new w0 47 ws
  have B1 : Below w0.heap.size w0 (w0.alloc (.cells ws 47)) := (Below.refl _ _).alloc (Nat.le_refl _) _
  have s1 : (w0.alloc (.cells ws 47)).heap.size = w0.heap.size + 1 := by simp
  rw [s0] at X1 s1
  generalize hw1 : w0.alloc (.cells ws 47) = w1 at *
  have X2 := blk_new w1 27 #[.slice ta n tz, .slice ka kn kz, .slice va vn vz]
  have B2 : Below w1.heap.size w1 (w1.alloc (.cells #[.slice ta n tz, .slice ka kn kz, .slice va vn vz] 27)) := (Below.refl _ _).alloc (Nat.le_refl _) _
  have s2 : (w1.alloc (.cells #[.slice ta n tz, .slice ka kn kz, .slice va vn vz] 27)).heap.size = w1.heap.size + 1 := by simp
  rw [s1] at X2 s2
  generalize hw2 : w1.alloc (.cells #[.slice ta n tz, .slice ka kn kz, .slice va vn vz] 27) = w2 at *
  have X3 := blk_new w2 27 #[.slice none 0 0, .slice none 0 0, .slice none 0 0]
  have B3 : Below w2.heap.size w2 (w2.alloc (.cells #[.slice none 0 0, .slice none 0 0, .slice none 0 0] 27)) := (Below.refl _ _).alloc (Nat.le_refl _) _
  have s3 : (w2.alloc (.cells #[.slice none 0 0, .slice none 0 0, .slice none 0 0] 27)).heap.size = w2.heap.size + 1 := by simp
  rw [s2] at X3 s3
  generalize hw3 : w2.alloc (.cells #[.slice none 0 0, .slice none 0 0, .slice none 0 0] 27) = w3 at *
  replace X0 := ((X0.below B1).below B2).below B3
  replace X1 := (X1.below B2).below B3
  replace X2 := X2.below B3
  replace B3 := below_then (below_then (below_then B0 B1) B2) B3
  have hn : ¬ (128 ≤ (n : Int)) := by omega
  have a0 : w3.cell? ⟨w.heap.size, 0, none⟩ = some (.int .i64 (V : Int)) := X0.cell 0 rfl
  have a1 : w3.cell? ⟨w.heap.size, 1, none⟩ = some (.int .i64 (D : Int)) := X0.cell 1 rfl
  have a2 : w3.cell? ⟨w.heap.size, 2, none⟩ = some (.int .i64 (Hd : Int)) := X0.cell 2 rfl
  have a3 : w3.cell? ⟨w.heap.size, 3, none⟩ = some (.int .i64 (H : Int)) := X0.cell 3 rfl
  have a4 : w3.cell? ⟨w.heap.size, 4, none⟩ = some (.int .i64 (L : Int)) := X0.cell 4 rfl
  go_enter Tryd.func14, Tryd.ntmps14
  go_wp2_with (refine wpList_load_row rfl 47 _ rfl (w.heap.size + 1) rfl 47 ws (0, 0) _ X1 Tryd.underlying47 rfl (by rw [siz]; exact Tryd.infoW) ?_)
  refine (CK _ B3).mono ?_
  rintro e w4 ⟨rfl, B4⟩
  replace X0 := X0.below B4
  replace X1 := X1.below B4
  replace X2 := X2.below B4
  replace X3 := X3.below B4
  have D4 := below_then B3 B4
  clear a0 a1 a2 a3 a4 B3 B4 CK hw0 hw1 hw2 hw3 B0 B1 B2 s0 s1 s2 s3
  have a0 : w4.cell? ⟨w.heap.size, 0, none⟩ = some (.int .i64 (V : Int)) := X0.cell 0 rfl
  have a1 : w4.cell? ⟨w.heap.size, 1, none⟩ = some (.int .i64 (D : Int)) := X0.cell 1 rfl
  have a2 : w4.cell? ⟨w.heap.size, 2, none⟩ = some (.int .i64 (Hd : Int)) := X0.cell 2 rfl
  have a3 : w4.cell? ⟨w.heap.size, 3, none⟩ = some (.int .i64 (H : Int)) := X0.cell 3 rfl
  have a4 : w4.cell? ⟨w.heap.size, 4, none⟩ = some (.int .i64 (L : Int)) := X0.cell 4 rfl
  have b0 : w4.cell? ⟨w.heap.size + 1 + 1, 0, none⟩ = some (.slice ta n tz) := X2.cell 0 rfl
  have b1 : w4.cell? ⟨w.heap.size + 1 + 1, 1, none⟩ = some (.slice ka kn kz) := X2.cell 1 rfl
  have b2 : w4.cell? ⟨w.heap.size + 1 + 1, 2, none⟩ = some (.slice va vn vz) := X2.cell 2 rfl
  go_wp2_with fail
  refine (CF _ D4).mono ?_
  rintro e w5 ⟨rfl, B5⟩
  replace X0 := X0.below B5
  replace X1 := X1.below B5
  replace X2 := X2.below B5
  replace X3 := X3.below B5
  have D5 := below_then D4 B5
  clear a0 a1 a2 a3 a4 b0 b1 b2 D4 B5 CF
  have a0 : w5.cell? ⟨w.heap.size, 0, none⟩ = some (.int .i64 (V : Int)) := X0.cell 0 rfl
  have a1 : w5.cell? ⟨w.heap.size, 1, none⟩ = some (.int .i64 (D : Int)) := X0.cell 1 rfl
  have a2 : w5.cell? ⟨w.heap.size, 2, none⟩ = some (.int .i64 (Hd : Int)) := X0.cell 2 rfl
  have a3 : w5.cell? ⟨w.heap.size, 3, none⟩ = some (.int .i64 (H : Int)) := X0.cell 3 rfl
  have a4 : w5.cell? ⟨w.heap.size, 4, none⟩ = some (.int .i64 (L : Int)) := X0.cell 4 rfl
  have b0 : w5.cell? ⟨w.heap.size + 1 + 1, 0, none⟩ = some (.slice ta n tz) := X2.cell 0 rfl
  have b1 : w5.cell? ⟨w.heap.size + 1 + 1, 1, none⟩ = some (.slice ka kn kz) := X2.cell 1 rfl
  have b2 : w5.cell? ⟨w.heap.size + 1 + 1, 2, none⟩ = some (.slice va vn vz) := X2.cell 2 rfl
  go_wp2_with fail
  refine (CI _).mono ?_
  rintro e w6 ⟨rfl, B6⟩
  rw [hb]
  replace X3 := X3.below B6
  have D6 := below_then D5 B6
  clear a0 a1 a2 a3 a4 b0 b1 b2 D5 CI
  have hall : Array.all (#[.slice none 0 0, .slice none 0 0, .slice none 0 0] : Array Value) (fun v => v.oneCell') = true := by simp [Value.oneCell']
  go_wp2_with (refine wpList_store_row rfl 27 _ _ rfl (w.heap.size + 1 + 1 + 1) #[.slice none 0 0, .slice none 0 0, .slice none 0 0] rfl rfl 27 _ X3 Tryd.infoV rfl hall ?_)
  refine bodyPost_ret (results_blk3 rfl _ _ (w.heap.size + 1 + 1 + 1) _ rfl (load_v (X3.row _) rfl)) rfl ?_
  exact ⟨rfl, below_setRow D6 (by omega) _⟩
set_option maxRecDepth 100000 in
set_option maxHeartbeats 800000 in
theorem feed_ok (V D Hd H L : Nat) (W : Wt) (bs : List Bk) (M : Mdl) (v : VwV) (X : Vw) (tok : Nat) (w : World) (hT : Tab w) (hl : X.T.length ≤ 127) (ht : tok < V) (hG : Good w V D Hd H L W bs M) (hv : VwAt w v X) (hf : VwFit V D L X) :
   Calls Tryd.prog 14 #[.agg (cfgC V D Hd H L), .agg W.cells, .agg v.cells, .int .i64 tok] w fun e w' => ∃ vv g, e = .returned (.tuple #[.agg (VwV.cells vv), .slice (some ⟨g, 0, none⟩) V V, .int .i64 0]) ∧ New w.heap.size w' (fun w => VwAt w vv (feedV M D H Hd L X tok)) ∧ Fresh w' w.heap.size g V V (likR M V D (feedX M D H Hd L X tok)) ∧ Below w.heap.size w w' := by
  obtain ⟨q1, q2, q3, q4, q5, q6, q7, q8, q9, q10⟩ := shape_ok hG.shape
  have hlen := hv.t.row.len
  have most := hf.most
  have CK := fun (wv : World) (hb : Below w.heap.size w wv) => check_good (hG.below hb)
  have CF := fun (wv : World) (hb : Below w.heap.size w wv) => sfits_ok V D Hd H L v X wv (hv.below hb) hf (by omega)
  have CI := fun (wv : World) => isToken_any V D Hd H L tok wv
  have htb : tokB V tok = true := by unfold tokB; exact decide_eq_true (by omega)
  have CG := fun (wv : World) (hb : Below w.heap.size w wv) => goOn_any V D Hd H L W bs M v X tok wv (hT.next hb) (hG.wt.below hb) (hv.below hb) hf hl ht (by omega) hG.len (by omega) (by omega) (by omega) (by omega) (by omega) (shape_mod hG.shape) (by omega)
  have CL := fun (wv : World) (hb : Below w.heap.size w wv) (xo : Option Addr) (cx : Nat) (Xr : List Int) (hX : RowAt wv xo D Xr) => likes_any V D H W bs M xo cx Xr wv (hG.wt.below hb) hX (by omega) (by omega)
  have hn0 : v.t.n ≤ 127 := by omega
  obtain ⟨⟨ta, n, tz⟩, ⟨ka, kn, kz⟩, ⟨va, vn, vz⟩⟩ := v
  simp only at hlen
  unfold VwV.cells Sl.v cfgC at CF
  unfold cfgC at CK CI CG
  unfold VwV.cells Sl.v at CG
  simp only at CG hn0
  simp only at CF
  show Calls Tryd.prog 14 #[.agg #[.int .i64 (V : Int), .int .i64 (D : Int), .int .i64 (Hd : Int), .int .i64 (H : Int), .int .i64 (L : Int)], .agg W.cells, .agg #[.slice ta n tz, .slice ka kn kz, .slice va vn vz], .int .i64 tok] w _
  have siz : W.cells.size = 8 := rfl
  generalize hws : W.cells = ws at *
  have X0 := blk_new w 41 #[.int .i64 (V : Int), .int .i64 (D : Int), .int .i64 (Hd : Int), .int .i64 (H : Int), .int .i64 (L : Int)]
  have B0 : Below w.heap.size w (w.alloc (.cells #[.int .i64 (V : Int), .int .i64 (D : Int), .int .i64 (Hd : Int), .int .i64 (H : Int), .int .i64 (L : Int)] 41)) := (Below.refl _ _).alloc (Nat.le_refl _) _
  have s0 : (w.alloc (.cells #[.int .i64 (V : Int), .int .i64 (D : Int), .int .i64 (Hd : Int), .int .i64 (H : Int), .int .i64 (L : Int)] 41)).heap.size = w.heap.size + 1 := by simp
  generalize hw0 : w.alloc (.cells #[.int .i64 (V : Int), .int .i64 (D : Int), .int .i64 (Hd : Int), .int .i64 (H : Int), .int .i64 (L : Int)] 41) = w0 at *
  have X1 := blk_new w0 47 ws
  have B1 : Below w0.heap.size w0 (w0.alloc (.cells ws 47)) := (Below.refl _ _).alloc (Nat.le_refl _) _
  have s1 : (w0.alloc (.cells ws 47)).heap.size = w0.heap.size + 1 := by simp
  rw [s0] at X1 s1
  generalize hw1 : w0.alloc (.cells ws 47) = w1 at *
  have X2 := blk_new w1 27 #[.slice ta n tz, .slice ka kn kz, .slice va vn vz]
  have B2 : Below w1.heap.size w1 (w1.alloc (.cells #[.slice ta n tz, .slice ka kn kz, .slice va vn vz] 27)) := (Below.refl _ _).alloc (Nat.le_refl _) _
  have s2 : (w1.alloc (.cells #[.slice ta n tz, .slice ka kn kz, .slice va vn vz] 27)).heap.size = w1.heap.size + 1 := by simp
  rw [s1] at X2 s2
  generalize hw2 : w1.alloc (.cells #[.slice ta n tz, .slice ka kn kz, .slice va vn vz] 27) = w2 at *
  have X3 := blk_new w2 27 #[.slice none 0 0, .slice none 0 0, .slice none 0 0]
  have B3 : Below w2.heap.size w2 (w2.alloc (.cells #[.slice none 0 0, .slice none 0 0, .slice none 0 0] 27)) := (Below.refl _ _).alloc (Nat.le_refl _) _
  have s3 : (w2.alloc (.cells #[.slice none 0 0, .slice none 0 0, .slice none 0 0] 27)).heap.size = w2.heap.size + 1 := by simp
  rw [s2] at X3 s3
  generalize hw3 : w2.alloc (.cells #[.slice none 0 0, .slice none 0 0, .slice none 0 0] 27) = w3 at *
  replace X0 := ((X0.below B1).below B2).below B3
  replace X1 := (X1.below B2).below B3
  replace X2 := X2.below B3
  replace B3 := below_then (below_then (below_then B0 B1) B2) B3
  have hn : ¬ (128 ≤ (n : Int)) := by omega
  have a0 : w3.cell? ⟨w.heap.size, 0, none⟩ = some (.int .i64 (V : Int)) := X0.cell 0 rfl
  have a1 : w3.cell? ⟨w.heap.size, 1, none⟩ = some (.int .i64 (D : Int)) := X0.cell 1 rfl
  have a2 : w3.cell? ⟨w.heap.size, 2, none⟩ = some (.int .i64 (Hd : Int)) := X0.cell 2 rfl
  have a3 : w3.cell? ⟨w.heap.size, 3, none⟩ = some (.int .i64 (H : Int)) := X0.cell 3 rfl
  have a4 : w3.cell? ⟨w.heap.size, 4, none⟩ = some (.int .i64 (L : Int)) := X0.cell 4 rfl
  go_enter Tryd.func14, Tryd.ntmps14
  go_wp2_with (refine wpList_load_row rfl 47 _ rfl (w.heap.size + 1) rfl 47 ws (0, 0) _ X1 Tryd.underlying47 rfl (by rw [siz]; exact Tryd.infoW) ?_)
  refine (CK _ B3).mono ?_
  rintro e w4 ⟨rfl, B4⟩
  replace X0 := X0.below B4
  replace X1 := X1.below B4
  replace X2 := X2.below B4
  replace X3 := X3.below B4
  have D4 := below_then B3 B4
  clear a0 a1 a2 a3 a4 B3 B4 CK hw0 hw1 hw2 hw3 B0 B1 B2 s0 s1 s2 s3
  have a0 : w4.cell? ⟨w.heap.size, 0, none⟩ = some (.int .i64 (V : Int)) := X0.cell 0 rfl
  have a1 : w4.cell? ⟨w.heap.size, 1, none⟩ = some (.int .i64 (D : Int)) := X0.cell 1 rfl
  have a2 : w4.cell? ⟨w.heap.size, 2, none⟩ = some (.int .i64 (Hd : Int)) := X0.cell 2 rfl
  have a3 : w4.cell? ⟨w.heap.size, 3, none⟩ = some (.int .i64 (H : Int)) := X0.cell 3 rfl
  have a4 : w4.cell? ⟨w.heap.size, 4, none⟩ = some (.int .i64 (L : Int)) := X0.cell 4 rfl
  have b0 : w4.cell? ⟨w.heap.size + 1 + 1, 0, none⟩ = some (.slice ta n tz) := X2.cell 0 rfl
  have b1 : w4.cell? ⟨w.heap.size + 1 + 1, 1, none⟩ = some (.slice ka kn kz) := X2.cell 1 rfl
  have b2 : w4.cell? ⟨w.heap.size + 1 + 1, 2, none⟩ = some (.slice va vn vz) := X2.cell 2 rfl
  go_wp2_with fail
  refine (CF _ D4).mono ?_
  rintro e w5 ⟨rfl, B5⟩
  replace X0 := X0.below B5
  replace X1 := X1.below B5
  replace X2 := X2.below B5
  replace X3 := X3.below B5
  have D5 := below_then D4 B5
  clear a0 a1 a2 a3 a4 b0 b1 b2 D4 B5 CF
  have a0 : w5.cell? ⟨w.heap.size, 0, none⟩ = some (.int .i64 (V : Int)) := X0.cell 0 rfl
  have a1 : w5.cell? ⟨w.heap.size, 1, none⟩ = some (.int .i64 (D : Int)) := X0.cell 1 rfl
  have a2 : w5.cell? ⟨w.heap.size, 2, none⟩ = some (.int .i64 (Hd : Int)) := X0.cell 2 rfl
  have a3 : w5.cell? ⟨w.heap.size, 3, none⟩ = some (.int .i64 (H : Int)) := X0.cell 3 rfl
  have a4 : w5.cell? ⟨w.heap.size, 4, none⟩ = some (.int .i64 (L : Int)) := X0.cell 4 rfl
  have b0 : w5.cell? ⟨w.heap.size + 1 + 1, 0, none⟩ = some (.slice ta n tz) := X2.cell 0 rfl
  have b1 : w5.cell? ⟨w.heap.size + 1 + 1, 1, none⟩ = some (.slice ka kn kz) := X2.cell 1 rfl
  have b2 : w5.cell? ⟨w.heap.size + 1 + 1, 2, none⟩ = some (.slice va vn vz) := X2.cell 2 rfl
  go_wp2_with fail
  refine (CI _).mono ?_
  rintro e w6 ⟨rfl, B6⟩
  rw [htb]
  replace X0 := X0.below B6
  replace X1 := X1.below B6
  replace X2 := X2.below B6
  replace X3 := X3.below B6
  have D6 := below_then D5 B6
  clear a0 a1 a2 a3 a4 b0 b1 b2 D5 CI B6
  have a0 : w6.cell? ⟨w.heap.size, 0, none⟩ = some (.int .i64 (V : Int)) := X0.cell 0 rfl
  have a1 : w6.cell? ⟨w.heap.size, 1, none⟩ = some (.int .i64 (D : Int)) := X0.cell 1 rfl
  have a2 : w6.cell? ⟨w.heap.size, 2, none⟩ = some (.int .i64 (Hd : Int)) := X0.cell 2 rfl
  have a3 : w6.cell? ⟨w.heap.size, 3, none⟩ = some (.int .i64 (H : Int)) := X0.cell 3 rfl
  have a4 : w6.cell? ⟨w.heap.size, 4, none⟩ = some (.int .i64 (L : Int)) := X0.cell 4 rfl
  have b0 : w6.cell? ⟨w.heap.size + 1 + 1, 0, none⟩ = some (.slice ta n tz) := X2.cell 0 rfl
  have b1 : w6.cell? ⟨w.heap.size + 1 + 1, 1, none⟩ = some (.slice ka kn kz) := X2.cell 1 rfl
  have b2 : w6.cell? ⟨w.heap.size + 1 + 1, 2, none⟩ = some (.slice va vn vz) := X2.cell 2 rfl
  go_wp2_with (refine wpList_load_row rfl 47 _ rfl (w.heap.size + 1) rfl 47 ws (0, 0) _ X1 Tryd.underlying47 rfl (by rw [siz]; exact Tryd.infoW) ?_)
  refine (CG _ D6).mono ?_
  rintro e w7 ⟨vv, gx, cx, rfl, N7, F7, B7⟩
  obtain ⟨⟨ta2, n2, tz2⟩, ⟨ka2, kn2, kz2⟩, ⟨va2, vn2, vz2⟩⟩ := vv
  have z6 := X3.lt
  replace X1 := X1.below B7
  replace X3 := X3.below B7
  have s6 := D6.size
  have D7 := below_then D6 B7
  clear a0 a1 a2 a3 a4 b0 b1 b2 CG X0 X2
  have N7' := N7
  replace F7 := F7.mono s6
  have XA := blk_new w7 27 #[.slice none 0 0, .slice none 0 0, .slice none 0 0]
  have BA : Below w7.heap.size w7 (w7.alloc (.cells #[.slice none 0 0, .slice none 0 0, .slice none 0 0] 27)) := (Below.refl _ _).alloc (Nat.le_refl _) _
  generalize hwa : w7.alloc (.cells #[.slice none 0 0, .slice none 0 0, .slice none 0 0] 27) = wa at *
  have XB := XA.row #[.slice ta2 n2 tz2, .slice ka2 kn2 kz2, .slice va2 vn2 vz2]
  have BB := below_setRow BA (Nat.le_refl _) #[.slice ta2 n2 tz2, .slice ka2 kn2 kz2, .slice va2 vn2 vz2]
  generalize hwb : wa.setRow w7.heap.size #[.slice ta2 n2 tz2, .slice ka2 kn2 kz2, .slice va2 vn2 vz2] = wb at *
  have hall : Array.all (#[.slice ta2 n2 tz2, .slice ka2 kn2 kz2, .slice va2 vn2 vz2] : Array Value) (fun v => v.oneCell') = true := by simp [Value.oneCell']
  have z3 := X3.lt
  replace X1 := (X1.below BB).below ((Below.refl _ _).drew)
  replace X3 := (X3.below BB).below ((Below.refl _ _).drew)
  replace N7' := (N7'.below BB).below ((Below.refl _ _).drew)
  replace F7 := (F7.below BB).drew
  have DB := (below_then D7 BB).drew
  go_wp2_with (refine wpList_store_row rfl 27 _ _ rfl w7.heap.size #[.slice ta2 n2 tz2, .slice ka2 kn2 kz2, .slice va2 vn2 vz2] rfl rfl 27 _ XA Tryd.infoV rfl hall ?_; rw [hwb])
  replace XB := XB.below ((Below.refl _ _).drew)
  clear hwa hwb XA BA
  refine wp_region_held_drew (S := fun w' => Blk w' w7.heap.size 27 #[.slice ta2 n2 tz2, .slice ka2 kn2 kz2, .slice va2 vn2 vz2] ∧ Blk w' (w.heap.size + 1) 47 ws) (by kernel_rfl) (⟨XB, X1⟩) (fun hHeld => ?_)
  refine wpAnyH_take (i := 0) (v := (.agg #[.slice ta2 n2 tz2, .slice ka2 kn2 kz2, .slice va2 vn2 vz2])) rfl (by kernel_rfl) (by kernel_rfl) (by kernel_rfl) (fun _ _ _ h => h) (Or.inl ⟨by rfl, ?_⟩) (by assumption) ?_
  · intro w' hSw
    exact yield_row 27 _ rfl w7.heap.size rfl _ (load_v hSw.1 rfl)
  simp only [List.getElem_toArray, List.getElem_cons_zero, Act.put, List.setIfInBounds_toArray, List.set_cons_zero, List.set_cons_succ]
  refine wpAnyH_take (i := 1) (v := (.agg ws)) rfl (by kernel_rfl) (by kernel_rfl) (by kernel_rfl) (fun _ _ _ h => h) (Or.inl ⟨by rfl, ?_⟩) (by assumption) ?_
  · intro w' hSw
    exact yield_row 47 _ rfl (w.heap.size + 1) rfl ws (load_w hSw.2 siz)
  simp only [List.getElem_toArray, List.getElem_cons_succ, List.getElem_cons_zero, Act.put, List.setIfInBounds_toArray, List.set_cons_zero, List.set_cons_succ]
  refine wpAnyH_take (i := 2) (v := (.slice (some ⟨gx, 0, none⟩) D cx)) rfl (by kernel_rfl) (by kernel_rfl) (by kernel_rfl) (fun _ _ _ h => h) (Or.inl ⟨by rfl, ?_⟩) (by assumption) ?_
  · intro w' hSw
    go_simp
  simp only [List.getElem_toArray, List.getElem_cons_succ, List.getElem_cons_zero, Act.put, List.setIfInBounds_toArray, List.set_cons_zero, List.set_cons_succ]
  refine wpAnyH_ready (rs := [3]) (by kernel_rfl) (by simp) ?_
  refine AllReadyH.cons rfl (fun Kc hKc => ?_) AllReadyH.nil
  simp only [List.getElem_toArray, List.getElem_cons_succ, List.getElem_cons_zero]
  rw [if_pos (by rfl)]
  go_wp2_with fail
  refine (CL _ DB _ _ _ F7.rowAt).mono ?_
  rintro e wd ⟨gl, rfl, FL, BL⟩
  replace XB := XB.below BL
  replace X1 := X1.below BL
  replace X3 := X3.below BL
  replace N7' := N7'.below BL
  have sB := DB.size
  replace FL := FL.mono sB
  have DL := below_then DB BL
  go_wp2_with fail
  refine hKc.out _ _ (⟨XB, X1⟩) (fun hHeld => ?_)
  clear hKc Kc
  refine wpAnyH_ready (rs := [4]) (by kernel_rfl) (by simp) ?_
  refine AllReadyH.cons rfl (fun Kc hKc => ?_) AllReadyH.nil
  simp only [List.getElem_toArray, List.getElem_cons_succ, List.getElem_cons_zero]
  rw [if_pos (by rfl)]
  refine wp_store_row 27 _ _ rfl (w.heap.size + 1 + 1 + 1) #[.slice ta2 n2 tz2, .slice ka2 kn2 kz2, .slice va2 vn2 vz2] rfl rfl 27 _ X3 Tryd.infoV rfl hall ?_
  have so : ∀ b, b ≠ w.heap.size + 1 + 1 + 1 → (wd.setRow (w.heap.size + 1 + 1 + 1) #[.slice ta2 n2 tz2, .slice ka2 kn2 kz2, .slice va2 vn2 vz2]).heap[b]? = wd.heap[b]? := fun b hb => setRow_other _ _ _ _ hb
  refine hKc.out _ _ (⟨Blk.of_block XB (so _ (by omega)), Blk.of_block X1 (so _ (by omega))⟩) (fun hHeld => ?_)
  clear hKc Kc
  refine wpAnyH_take (i := 5) (v := (.slice (some ⟨gl, 0, none⟩) V V)) rfl (by kernel_rfl) (by kernel_rfl) (by kernel_rfl) (fun _ _ _ h => h) (Or.inl ⟨by rfl, ?_⟩) (by assumption) ?_
  · intro w' hSw
    go_simp
  simp only [List.getElem_toArray, List.getElem_cons_succ, List.getElem_cons_zero, Act.put, List.setIfInBounds_toArray, List.set_cons_zero, List.set_cons_succ]
  refine wpAnyH_take (i := 6) (v := (.int .i64 0)) rfl (by kernel_rfl) (by kernel_rfl) (by kernel_rfl) (fun _ _ _ h => h) (Or.inl ⟨by rfl, ?_⟩) (by assumption) ?_
  · intro w' hSw
    go_simp
  simp only [List.getElem_toArray, List.getElem_cons_succ, List.getElem_cons_zero, Act.put, List.setIfInBounds_toArray, List.set_cons_zero, List.set_cons_succ]
  refine wpAnyH_done (by kernel_rfl) ?_ _
  go_wp2
  refine bodyPost_ret (results_blk3 rfl _ _ (w.heap.size + 1 + 1 + 1) _ rfl (load_v (X3.row _) rfl)) rfl ?_
  refine ⟨⟨⟨ta2, n2, tz2⟩, ⟨ka2, kn2, kz2⟩, ⟨va2, vn2, vz2⟩⟩, gl, rfl, ?_, ?_, below_setRow DL (by omega) _⟩
  · exact (N7'.row z6 _).mono s6
  · exact FL.of_block (so gl (FL.ne X3 (by decide)))
end Go.Proofs.YtmdjlaileakbeaaDoor

/- Package step: All: several tokens more. -/
namespace Go.Proofs.YtmdjlaileakbeaaDoor
open Go.ChangeShapes Go.WideShapes Go.ChangeAt Go.RowKit
/-- The view behind several tokens more, and what is liked behind the last one. -/
def feedAll (M : Mdl) (D H Hd L : Nat) (X : Vw) (A : List Int) : Vw := A.foldl (fun X t => feedV M D H Hd L X t.toNat) X
def likAt (M : Mdl) (V D H Hd L : Nat) (X : Vw) (A : List Int) : Nat → List Int
  | 0 => []
  | k + 1 => likR M V D (feedX M D H Hd L (feedAll M D H Hd L X (A.take k)) (el A k).toNat)
theorem feedAll_step (M : Mdl) (D H Hd L : Nat) (X : Vw) {A : List Int} {k : Nat} (h : k < A.length) : feedAll M D H Hd L X (A.take (k + 1)) = feedV M D H Hd L (feedAll M D H Hd L X (A.take k)) (el A k).toNat := by
  have e : A[k]? = some (el A k) := by unfold el; simp [List.getD_eq_getElem?_getD, List.getElem?_eq_getElem h]
  unfold feedAll
  rw [List.take_add_one, e, List.foldl_append]
  rfl
theorem feedAll_len (M : Mdl) (D H Hd L : Nat) (A : List Int) : ∀ X : Vw, (feedAll M D H Hd L X A).T.length = X.T.length + A.length := by
  induction A with
  | nil => intro X; rfl
  | cons a A ih =>
    intro X
    show (feedAll M D H Hd L (feedV M D H Hd L X a.toNat) A).T.length = _
    rw [ih]
    unfold feedV
    simp
    omega
theorem feedAll_fit {M : Mdl} {V D H Hd L : Nat} {A : List Int} : ∀ {X : Vw}, VwFit V D L X → A.all (tokB V) = true → X.T.length + A.length ≤ 128 → VwFit V D L (feedAll M D H Hd L X A) := by
  induction A with
  | nil => intro X hf _ _; exact hf
  | cons a A ih =>
    intro X hf ha hl
    simp only [List.all_cons, Bool.and_eq_true] at ha
    simp only [List.length_cons] at hl
    have ht : 0 ≤ a ∧ a < V := by have := ha.1; unfold tokB at this; simpa using this
    show VwFit V D L (feedAll M D H Hd L (feedV M D H Hd L X a.toNat) A)
    exact ih (fit_feed hf (by omega) (by omega)) ha.2 (by unfold feedV; simp; omega)
theorem vwv_one (v : VwV) : v.cells.all (·.oneCell') = true := by simp [VwV.cells, Sl.v, Value.oneCell']
theorem vwv_size (v : VwV) : v.cells.size = 3 := rfl
theorem prompt_ok {V : Int} {A : List Int} (h : promptN V A = 0) : 1 ≤ A.length ∧ A.length ≤ 128 ∧ A.all (tokB V) = true := by
  unfold promptN at h
  split at h
  · omega
  · split at h
    · omega
    · split at h
      · rename_i h1 h2 h3; exact ⟨by omega, by omega, h3⟩
      · omega
/-- Within All: boxes, and the view behind k tokens. -/
structure AI (w wr : World) (V D H Hd L : Nat) (cfg ws : Array Value) (M : Mdl) (X : Vw) (A : List Int) (k : Nat) (vv : VwV) (lv : Value) : Prop where
  x0 : Blk wr w.heap.size 41 cfg
  x1 : Blk wr (w.heap.size + 1) 47 ws
  x2 : Blk wr (w.heap.size + 2) 27 vv.cells
  x3 : Blk wr (w.heap.size + 3) 27 #[.slice none 0 0, .slice none 0 0, .slice none 0 0]
  at_ : VwAt wr vv (feedAll M D H Hd L X (A.take k))
  new : 0 < k → New (w.heap.size + 4) wr (fun w => VwAt w vv (feedAll M D H Hd L X (A.take k))) ∧ ∃ g, lv = .slice (some ⟨g, 0, none⟩) V V ∧ Fresh wr (w.heap.size + 4) g V V (likAt M V D H Hd L X A k)
  kp : Below w.heap.size w wr
  sz : w.heap.size + 3 < wr.heap.size
end Go.Proofs.YtmdjlaileakbeaaDoor

/- Package greedy: requests, ends, and the token that is liked best. -/
namespace Go.Proofs.YtmdjlaileakbeaaDoor
open Go.ChangeShapes Go.WideShapes Go.ChangeAt Go.RowKit
/-- Is the last token the end? -/
def endB (A : List Int) : Bool := decide (0 < A.length) && decide (el A (A.length - 1) = 0)
def overB (A : List Int) (most : Int) : Bool := decide (most ≤ (A.length : Int)) || endB A
/-- The error's number of a request. -/
def askedN (V : Int) (A : List Int) (most : Int) : Int := if promptN V A ≠ 0 then promptN V A else if most < 1 then 1 else if 128 - (A.length : Int) < most then 2 else 0
theorem amax_pos (A : List Int) : ∀ k, 0 ≤ amax A (k + 1)
  | 0 => by simp [amax]
  | k + 1 => by
    have := amax_pos A k
    rw [amax]
    split <;> omega
end Go.Proofs.YtmdjlaileakbeaaDoor

/- Package greedy: Run: what a model says behind a prompt. -/
namespace Go.Proofs.YtmdjlaileakbeaaDoor
open Go.ChangeShapes Go.WideShapes Go.ChangeAt Go.RowKit
def noX : Vw := ⟨[], [], []⟩
/-- Behind j tokens of an answer: the view, the answer, and the tokens that the view lacks. -/
structure RunS where
  X : Vw
  Y : List Int
  T : List Int
def runS (M : Mdl) (V D H Hd L : Nat) (P : List Int) : Nat → RunS
  | 0 => ⟨noX, [], P⟩
  | j + 1 => ⟨feedAll M D H Hd L (runS M V D H Hd L P j).X (runS M V D H Hd L P j).T,
      (runS M V D H Hd L P j).Y ++ [amax (likAt M V D H Hd L (runS M V D H Hd L P j).X (runS M V D H Hd L P j).T (runS M V D H Hd L P j).T.length) V],
      [amax (likAt M V D H Hd L (runS M V D H Hd L P j).X (runS M V D H Hd L P j).T (runS M V D H Hd L P j).T.length) V]⟩
theorem runS_len (M : Mdl) (V D H Hd L : Nat) (P : List Int) : ∀ j, (runS M V D H Hd L P j).Y.length = j
  | 0 => rfl
  | j + 1 => by show (_ ++ [_]).length = _; rw [List.length_append, runS_len M V D H Hd L P j]; rfl
theorem runS_sum (M : Mdl) (V D H Hd L : Nat) (P : List Int) : ∀ j, (runS M V D H Hd L P j).X.T.length + (runS M V D H Hd L P j).T.length = P.length + j
  | 0 => by show 0 + P.length = _; omega
  | j + 1 => by
    show (feedAll M D H Hd L _ _).T.length + 1 = _
    rw [feedAll_len, runS_sum M V D H Hd L P j]
    omega
theorem amax_tok (A : List Int) {V : Nat} (hV : 1 ≤ V) : 0 ≤ amax A V ∧ amax A V < V := by
  obtain ⟨k, rfl⟩ : ∃ k, V = k + 1 := ⟨V - 1, by omega⟩
  exact ⟨amax_pos A k, (amax_bd A (k + 1)).2⟩
theorem noX_fit (V : Int) (D L : Nat) : VwFit V D L noX := ⟨by show 0 ≤ 128; omega, rfl, rfl, rfl, (fun _ h => by cases h), (fun _ h => by cases h)⟩
theorem runS_toks {M : Mdl} {V D H Hd L : Nat} {P : List Int} (hV : 1 ≤ V) (hP : promptN V P = 0) : ∀ j, promptN V (runS M V D H Hd L P j).T = 0
  | 0 => hP
  | j + 1 => by
    have h := amax_tok (likAt M V D H Hd L (runS M V D H Hd L P j).X (runS M V D H Hd L P j).T (runS M V D H Hd L P j).T.length) hV
    show promptN V [amax _ V] = 0
    unfold promptN
    rw [if_neg (by simp), if_neg (by simp)]
    have : List.all [amax (likAt M V D H Hd L (runS M V D H Hd L P j).X (runS M V D H Hd L P j).T (runS M V D H Hd L P j).T.length) (V : Nat)] (tokB V) = true := by
      simp only [List.all_cons, List.all_nil, Bool.and_true]
      unfold tokB
      exact decide_eq_true h
    rw [if_pos this]
theorem runS_fit {M : Mdl} {V D H Hd L : Nat} {P : List Int} (hV : 1 ≤ V) (hP : promptN V P = 0) : ∀ j, P.length + j ≤ 129 → VwFit V D L (runS M V D H Hd L P j).X
  | 0, _ => noX_fit _ _ _
  | j + 1, h => by
    have hs := runS_sum M V D H Hd L P j
    exact feedAll_fit (runS_fit hV hP j (by omega)) (prompt_ok (runS_toks hV hP j)).2.2 (by omega)
theorem asked_ok {V : Int} {A : List Int} {most : Int} (h : askedN V A most = 0) : promptN V A = 0 ∧ 1 ≤ most ∧ most ≤ 128 - (A.length : Int) := by
  unfold askedN at h
  split at h
  · rename_i h1; exact absurd h h1
  · rename_i h1
    split at h
    · omega
    · split at h
      · omega
      · exact ⟨by simpa using h1, by omega, by omega⟩
theorem over_not {A : List Int} {most : Int} (h : overB A most = false) : (A.length : Int) < most := by
  unfold overB at h
  rw [Bool.or_eq_false_iff] at h
  simpa using h.1
theorem one_int {w : World} {bo : Nat} {x : Int} (h : w.cell? ⟨bo, 0, none⟩ = some (.int .i64 x)) : ∀ j u, ([x].map (Value.int .i64))[j]? = some u → w.cell? ((Addr.mk bo 0 none).add j) = some u := by
  intro j u hj
  match j, hj with
  | 0, hj =>
    simp at hj
    subst hj
    have e2 : (Addr.mk bo 0 none).add 0 = ⟨bo, 0, none⟩ := by simp [Addr.add]
    rw [e2, h]
theorem iarg_one {w : World} {bo : Nat} {x : Int} (h : Blk w bo 3 #[.int .i64 x]) (h1 : -9223372036854775808 ≤ x) (h2 : x ≤ 9223372036854775807) : IArg w (some ⟨bo, 0, none⟩) 1 1 [x] := by
  refine ⟨⟨rfl, by omega, fun k => ?_, fun _ => ⟨bo, 0, rfl, fun t ht => ?_⟩⟩, by omega, by omega, fun h => by cases h⟩
  · cases k with
    | zero => exact ⟨h1, h2⟩
    | succ k => simp [el]
  · obtain rfl : t = 0 := by omega
    exact h.cell 0 rfl
theorem el_snoc_bd {A : List Int} {x : Int} (h : ∀ k, -9223372036854775808 ≤ el A k ∧ el A k ≤ 9223372036854775807) (h1 : -9223372036854775808 ≤ x) (h2 : x ≤ 9223372036854775807) (k : Nat) : -9223372036854775808 ≤ el (A ++ [x]) k ∧ el (A ++ [x]) k ≤ 9223372036854775807 := by
  rcases Nat.lt_or_ge k A.length with hk | hk
  · rw [el_append_left hk]; exact h k
  · unfold el
    rw [List.getD_eq_getElem?_getD, List.getElem?_append_right hk]
    rcases Nat.eq_zero_or_pos (k - A.length) with h0 | h0
    · rw [h0]; exact ⟨h1, h2⟩
    · rw [List.getElem?_eq_none (by simp; omega)]; simp
theorem runS_yb (M : Mdl) (V D H Hd L : Nat) (P : List Int) (hV : 1 ≤ V) (hV2 : V ≤ 4096) : ∀ (j k : Nat), -9223372036854775808 ≤ el (runS M V D H Hd L P j).Y k ∧ el (runS M V D H Hd L P j).Y k ≤ 9223372036854775807
  | 0, k => by
    have e : el (runS M V D H Hd L P 0).Y k = 0 := by show el [] k = 0; simp [el]
    rw [e]; omega
  | j + 1, k => by
    have ih := runS_yb M V D H Hd L P hV hV2 j
    have ht := amax_tok (likAt M V D H Hd L (runS M V D H Hd L P j).X (runS M V D H Hd L P j).T (runS M V D H Hd L P j).T.length) hV
    have e : (runS M V D H Hd L P (j + 1)).Y = (runS M V D H Hd L P j).Y ++ [amax (likAt M V D H Hd L (runS M V D H Hd L P j).X (runS M V D H Hd L P j).T (runS M V D H Hd L P j).T.length) V] := rfl
    rw [e]
    exact el_snoc_bd ih (by omega) (by omega) k
/-- Within Run: boxes, the view, the answer and the tokens behind j rounds. -/
structure RI (w wr : World) (V D H Hd L : Nat) (cfg ws : Array Value) (M : Mdl) (P : List Int) (gV j : Nat) (vv : VwV) (ya ta : Option Addr) (yc tn tc : Nat) : Prop where
  x0 : Blk wr w.heap.size 41 cfg
  x1 : Blk wr (w.heap.size + 1) 47 ws
  xv : Blk wr gV 27 vv.cells
  at_ : VwAt wr vv (runS M V D H Hd L P j).X
  y : IOwn wr (gV + 1) (.slice ya j yc) j (runS M V D H Hd L P j).Y
  t : IArg wr ta tn tc (runS M V D H Hd L P j).T
  kp : Below w.heap.size w wr
  gv : w.heap.size + 1 < gV
end Go.Proofs.YtmdjlaileakbeaaDoor

/- Cut of any view and any number: the program's and the document's read alike. -/
namespace Go.Proofs.YtmdjlaileakbeaaDoor
open Go.ChangeShapes Go.WideShapes Go.ChangeAt Go.RowKit
set_option maxRecDepth 100000 in
set_option maxHeartbeats 800000 in
theorem rcutR_le (t k v : Sl) (X : Vw) (n : Nat) (w : World) (hv : ToldAt w t k v X) (hn1 : 1 ≤ n) (hnt : n ≤ X.T.length) (hX : cutVw X = X) :
   Calls Tryd.prog 10 #[.agg #[t.v, k.v, v.v], .int .i64 (n : Int)] w fun e w' => ∃ t2 k2 v2 : Sl, e = .returned (.agg #[t2.v, k2.v, v2.v]) ∧ ToldAt w' t2 k2 v2 (cutV X n) ∧ Below w.heap.size w w' := by
  obtain ⟨hb1, hb2, hb3, _, _⟩ := cutVw_bounds hX
  have lt := hv.t.row.len
  have lk := hv.k.len
  have lv := hv.v.len
  have HT : Hid (∀ wv, Below w.heap.size w wv → IArg wv t.ao t.n t.c X.T) := fun wv hb => hv.t.below hb
  have HK : Hid (∀ wv, Below w.heap.size w wv → CubeAt wv k.ao k.n X.K) := fun wv hb => hv.k.below hb
  have HV : Hid (∀ wv, Below w.heap.size w wv → CubeAt wv v.ao v.n X.V) := fun wv hb => hv.v.below hb
  have fit := hv.t.fit
  have mx := hv.t.max
  obtain ⟨tb, tq, hto, -⟩ := hv.t.row.cells (by omega)
  clear hv
  obtain ⟨ta, tn, tc⟩ := t
  obtain ⟨ka, kn, kc⟩ := k
  obtain ⟨va, vn, vc⟩ := v
  unfold Sl.v
  simp only at *
  subst hto
  have lk' : kn ≤ 4096 := by omega
  have lv' : vn ≤ 4096 := by omega
  rw [lt] at hnt hb1
  clear lt lk lv hb2 hb3
  have hmn : ¬ (tn : Int) < (n : Int) := by omega
  have hlt1 : ¬ (n : Int) < 1 := by omega
  have X0 := blk_new w 29 #[.slice (some ⟨tb, tq, none⟩) tn tc, .slice ka kn kc, .slice va vn vc]
  have B0 : Below w.heap.size w (w.alloc (.cells #[.slice (some ⟨tb, tq, none⟩) tn tc, .slice ka kn kc, .slice va vn vc] 29)) := (Below.refl _ _).alloc (Nat.le_refl _) _
  generalize hw0 : w.alloc (.cells #[.slice (some ⟨tb, tq, none⟩) tn tc, .slice ka kn kc, .slice va vn vc] 29) = w0 at *
  have lt0 := X0.lt
  have X1 := blk_new w0 29 #[.slice none 0 0, .slice none 0 0, .slice none 0 0]
  have B1 : Below w0.heap.size w0 (w0.alloc (.cells #[.slice none 0 0, .slice none 0 0, .slice none 0 0] 29)) := (Below.refl _ _).alloc (Nat.le_refl _) _
  generalize hw1 : w0.alloc (.cells #[.slice none 0 0, .slice none 0 0, .slice none 0 0] 29) = w1 at *
  replace X0 := X0.below B1
  have D := below_then B0 B1
  clear B0 B1
  have lt1 := X1.lt
  have a0 : w1.cell? ⟨w.heap.size, 0, none⟩ = some (.slice (some ⟨tb, tq, none⟩) tn tc) := X0.cell 0 rfl
  go_enter Tryd.func10, Tryd.ntmps10
  go_wp2_with fail
  clear hw0 hw1 a0
  replace X0 := X0.below ((Below.refl _ _).drew)
  replace X1 := X1.below ((Below.refl _ _).drew)
  replace D := D.drew
  replace lt1 : w0.heap.size < w1.drew.heap.size := lt1
  refine wp_region_held_drew (S := fun w' => Blk w' w.heap.size 29 #[.slice (some ⟨tb, tq, none⟩) tn tc, .slice ka kn kc, .slice va vn vc]) (by kernel_rfl) (X0) (fun hHeld => ?_)
  generalize hA : w1.drew = wA at *
  clear hA
  refine wpAnyH_take (i := 0) (v := (.pointer (some ⟨w.heap.size, 0, none⟩))) rfl (by kernel_rfl) (by kernel_rfl) (by kernel_rfl) (fun _ _ _ h => h) (Or.inl ⟨by rfl, ?_⟩) (by assumption) ?_
  · intro w' hSw
    go_simp
  simp only [List.getElem_toArray, List.getElem_cons_zero, Act.put, List.setIfInBounds_toArray, List.set_cons_zero, List.set_cons_succ]
  refine wpAnyH_take (i := 1) (v := (.slice (some ⟨tb, tq, none⟩) tn tc)) rfl (by kernel_rfl) (by kernel_rfl) (by kernel_rfl) (fun _ _ _ h => h) (Or.inl ⟨by rfl, ?_⟩) (by assumption) ?_
  · intro w' hSw
    have cc0 : w'.cell? ⟨w.heap.size, 0, none⟩ = some (.slice (some ⟨tb, tq, none⟩) tn tc) := hSw.cell 0 rfl
    go_simp
  simp only [List.getElem_toArray, List.getElem_cons_succ, List.getElem_cons_zero, Act.put, List.setIfInBounds_toArray, List.set_cons_zero, List.set_cons_succ]
  refine wpAnyH_take (i := 2) (v := (.int .i64 (n : Int))) rfl (by kernel_rfl) (by kernel_rfl) (by kernel_rfl) (fun _ _ _ h => h) (Or.inl ⟨by rfl, ?_⟩) (by assumption) ?_
  · intro w' hSw
    go_simp
  simp only [List.getElem_toArray, List.getElem_cons_succ, List.getElem_cons_zero, Act.put, List.setIfInBounds_toArray, List.set_cons_zero, List.set_cons_succ]
  refine wpAnyH_take (i := 3) (v := (.slice (some ⟨tb, tq, none⟩) n tc)) rfl (by kernel_rfl) (by kernel_rfl) (by kernel_rfl) (fun _ _ _ h => h) (Or.inl ⟨by rfl, ?_⟩) (by assumption) ?_
  · intro w' hSw
    (go_simp; intro hbad; exfalso; omega)
  simp only [List.getElem_toArray, List.getElem_cons_succ, List.getElem_cons_zero, Act.put, List.setIfInBounds_toArray, List.set_cons_zero, List.set_cons_succ]
  refine wpAnyH_take (i := 4) (v := (.pointer (some ⟨w.heap.size, 1, none⟩))) rfl (by kernel_rfl) (by kernel_rfl) (by kernel_rfl) (fun _ _ _ h => h) (Or.inl ⟨by rfl, ?_⟩) (by assumption) ?_
  · intro w' hSw
    go_simp
  simp only [List.getElem_toArray, List.getElem_cons_succ, List.getElem_cons_zero, Act.put, List.setIfInBounds_toArray, List.set_cons_zero, List.set_cons_succ]
  refine wpAnyH_take (i := 5) (v := (.slice ka kn kc)) rfl (by kernel_rfl) (by kernel_rfl) (by kernel_rfl) (fun _ _ _ h => h) (Or.inl ⟨by rfl, ?_⟩) (by assumption) ?_
  · intro w' hSw
    have cc1 : w'.cell? ⟨w.heap.size, 1, none⟩ = some (.slice ka kn kc) := hSw.cell 1 rfl
    go_simp
  simp only [List.getElem_toArray, List.getElem_cons_succ, List.getElem_cons_zero, Act.put, List.setIfInBounds_toArray, List.set_cons_zero, List.set_cons_succ]
  refine wpAnyH_take (i := 6) (v := (.int .i64 (n : Int))) rfl (by kernel_rfl) (by kernel_rfl) (by kernel_rfl) (fun _ _ _ h => h) (Or.inl ⟨by rfl, ?_⟩) (by assumption) ?_
  · intro w' hSw
    go_simp
  simp only [List.getElem_toArray, List.getElem_cons_succ, List.getElem_cons_zero, Act.put, List.setIfInBounds_toArray, List.set_cons_zero, List.set_cons_succ]
  refine wpAnyH_take (i := 8) (v := (.pointer (some ⟨w.heap.size, 2, none⟩))) rfl (by kernel_rfl) (by kernel_rfl) (by kernel_rfl) (fun _ _ _ h => h) (Or.inl ⟨by rfl, ?_⟩) (by assumption) ?_
  · intro w' hSw
    go_simp
  simp only [List.getElem_toArray, List.getElem_cons_succ, List.getElem_cons_zero, Act.put, List.setIfInBounds_toArray, List.set_cons_zero, List.set_cons_succ]
  refine wpAnyH_take (i := 9) (v := (.slice va vn vc)) rfl (by kernel_rfl) (by kernel_rfl) (by kernel_rfl) (fun _ _ _ h => h) (Or.inl ⟨by rfl, ?_⟩) (by assumption) ?_
  · intro w' hSw
    have cc2 : w'.cell? ⟨w.heap.size, 2, none⟩ = some (.slice va vn vc) := hSw.cell 2 rfl
    go_simp
  simp only [List.getElem_toArray, List.getElem_cons_succ, List.getElem_cons_zero, Act.put, List.setIfInBounds_toArray, List.set_cons_zero, List.set_cons_succ]
  refine wpAnyH_take (i := 10) (v := (.int .i64 (n : Int))) rfl (by kernel_rfl) (by kernel_rfl) (by kernel_rfl) (fun _ _ _ h => h) (Or.inl ⟨by rfl, ?_⟩) (by assumption) ?_
  · intro w' hSw
    go_simp
  simp only [List.getElem_toArray, List.getElem_cons_succ, List.getElem_cons_zero, Act.put, List.setIfInBounds_toArray, List.set_cons_zero, List.set_cons_succ]
  refine wpAnyH_ready (rs := [7]) (by kernel_rfl) (by simp) ?_
  refine AllReadyH.cons rfl (fun Kc hKc => ?_) AllReadyH.nil
  simp only [List.getElem_toArray, List.getElem_cons_succ, List.getElem_cons_zero]
  rw [if_pos (by rfl)]
  go_wp2_with fail
  refine (rcut9_any ka kn kc n X.K w _ (HK.out _ (Below.refl _ _)) D lk' (by omega)).mono ?_
  rintro e w3 ⟨kg, kc2, rfl, NK, B3⟩
  have z3 := B3.size
  have z2 := D.size
  replace X0 := X0.below B3
  replace X1 := X1.below B3
  replace D := below_then D B3
  go_wp2_with fail
  refine hKc.out _ _ (X0) (fun hHeld => ?_)
  clear hKc Kc
  refine wpAnyH_ready (rs := [11]) (by kernel_rfl) (by simp) ?_
  refine AllReadyH.cons rfl (fun Kc hKc => ?_) AllReadyH.nil
  simp only [List.getElem_toArray, List.getElem_cons_succ, List.getElem_cons_zero]
  rw [if_pos (by rfl)]
  go_wp2_with fail
  refine (rcut9_any va vn vc n X.V w _ (HV.out _ (Below.refl _ _)) D lv' (by omega)).mono ?_
  rintro e w4 ⟨vg, vc2, rfl, NV, B4⟩
  replace NK := Hangs.below NK B4
  replace X0 := X0.below B4
  replace X1 := X1.below B4
  replace D := below_then D B4
  go_wp2_with fail
  refine hKc.out _ _ (X0) (fun hHeld => ?_)
  clear hKc Kc
  refine wpAnyH_take (i := 12) (v := (.agg #[.slice (some ⟨tb, tq, none⟩) n tc, .slice (some ⟨kg, 0, none⟩) kn kc2, .slice (some ⟨vg, 0, none⟩) vn vc2])) rfl (by kernel_rfl) (by kernel_rfl) (by kernel_rfl) (fun _ _ _ h => h) (Or.inl ⟨by rfl, ?_⟩) (by assumption) ?_
  · intro w' hSw
    go_simp
  simp only [List.getElem_toArray, List.getElem_cons_succ, List.getElem_cons_zero, Act.put, List.setIfInBounds_toArray, List.set_cons_zero, List.set_cons_succ]
  refine wpAnyH_ready (rs := [13]) (by kernel_rfl) (by simp) ?_
  refine AllReadyH.cons rfl (fun Kc hKc => ?_) AllReadyH.nil
  simp only [List.getElem_toArray, List.getElem_cons_succ, List.getElem_cons_zero]
  rw [if_pos (by rfl)]
  have hall : Array.all (#[.slice (some ⟨tb, tq, none⟩) n tc, .slice (some ⟨kg, 0, none⟩) kn kc2, .slice (some ⟨vg, 0, none⟩) vn vc2] : Array Value) (fun v => v.oneCell') = true := by simp [Value.oneCell']
  refine wp_store_row 29 _ _ rfl w0.heap.size #[.slice (some ⟨tb, tq, none⟩) n tc, .slice (some ⟨kg, 0, none⟩) kn kc2, .slice (some ⟨vg, 0, none⟩) vn vc2] rfl rfl 29 _ X1 Tryd.infoRV rfl hall ?_
  refine hKc.out _ _ (Blk.of_block X0 (setRow_other _ _ _ _ (by omega))) (fun hHeld => ?_)
  clear hKc Kc
  refine wpAnyH_done (by kernel_rfl) ?_ _
  clear hHeld
  go_wp2
  refine bodyPost_ret (results_cell_row rfl _ _ w0.heap.size 29 _ _ _ rfl (X1.row _) Tryd.underlying29 rfl Tryd.infoRV) rfl ?_
  have DD : Below w.heap.size w (w4.setRow w0.heap.size #[.slice (some ⟨tb, tq, none⟩) n tc, .slice (some ⟨kg, 0, none⟩) kn kc2, .slice (some ⟨vg, 0, none⟩) vn vc2]) := below_setRow D (by omega) _
  have IT := ((HT.out _ DD).take hnt)
  have QK := (Hangs.row NK (g := w0.heap.size) (by show ¬ (_ ∨ _ ≤ _); omega) #[.slice (some ⟨tb, tq, none⟩) n tc, .slice (some ⟨kg, 0, none⟩) kn kc2, .slice (some ⟨vg, 0, none⟩) vn vc2]).now
  have QV := (Hangs.row NV (g := w0.heap.size) (by show ¬ (_ ∨ _ ≤ _); omega) #[.slice (some ⟨tb, tq, none⟩) n tc, .slice (some ⟨kg, 0, none⟩) kn kc2, .slice (some ⟨vg, 0, none⟩) vn vc2]).now
  have oth : ∀ b, b < w4.heap.size → b ≠ w0.heap.size → (w4.setRow w0.heap.size #[.slice (some ⟨tb, tq, none⟩) n tc, .slice (some ⟨kg, 0, none⟩) kn kc2, .slice (some ⟨vg, 0, none⟩) vn vc2]).heap[b]? = w4.heap[b]? := fun b _ hb => setRow_other _ _ _ _ hb
  exact ⟨⟨some ⟨tb, tq, none⟩, n, tc⟩, ⟨some ⟨kg, 0, none⟩, kn, kc2⟩, ⟨some ⟨vg, 0, none⟩, vn, vc2⟩, rfl, ⟨IT, QK, QV⟩, DD⟩
set_option maxRecDepth 100000 in
set_option maxHeartbeats 800000 in
theorem rcutR_gt (t k v : Sl) (X : Vw) (nn : Int) (n : Nat) (w : World) (hv : ToldAt w t k v X) (hn1 : 1 ≤ n) (hnt : n = X.T.length) (hnn : (X.T.length : Int) < nn) (hX : cutVw X = X) :
   Calls Tryd.prog 10 #[.agg #[t.v, k.v, v.v], .int .i64 nn] w fun e w' => ∃ t2 k2 v2 : Sl, e = .returned (.agg #[t2.v, k2.v, v2.v]) ∧ ToldAt w' t2 k2 v2 (cutV X n) ∧ Below w.heap.size w w' := by
  obtain ⟨hb1, hb2, hb3, _, _⟩ := cutVw_bounds hX
  have lt := hv.t.row.len
  have lk := hv.k.len
  have lv := hv.v.len
  have HT : Hid (∀ wv, Below w.heap.size w wv → IArg wv t.ao t.n t.c X.T) := fun wv hb => hv.t.below hb
  have HK : Hid (∀ wv, Below w.heap.size w wv → CubeAt wv k.ao k.n X.K) := fun wv hb => hv.k.below hb
  have HV : Hid (∀ wv, Below w.heap.size w wv → CubeAt wv v.ao v.n X.V) := fun wv hb => hv.v.below hb
  have fit := hv.t.fit
  have mx := hv.t.max
  obtain ⟨tb, tq, hto, -⟩ := hv.t.row.cells (by omega)
  clear hv
  obtain ⟨ta, tn, tc⟩ := t
  obtain ⟨ka, kn, kc⟩ := k
  obtain ⟨va, vn, vc⟩ := v
  unfold Sl.v
  simp only at *
  subst hto
  have lk' : kn ≤ 4096 := by omega
  have lv' : vn ≤ 4096 := by omega
  rw [lt] at hnt hb1 hnn
  subst hnt
  clear lt lk lv hb2 hb3
  have hmn : (n : Int) < nn := hnn
  have hlt1 : ¬ (n : Int) < 1 := by omega
  have X0 := blk_new w 29 #[.slice (some ⟨tb, tq, none⟩) n tc, .slice ka kn kc, .slice va vn vc]
  have B0 : Below w.heap.size w (w.alloc (.cells #[.slice (some ⟨tb, tq, none⟩) n tc, .slice ka kn kc, .slice va vn vc] 29)) := (Below.refl _ _).alloc (Nat.le_refl _) _
  generalize hw0 : w.alloc (.cells #[.slice (some ⟨tb, tq, none⟩) n tc, .slice ka kn kc, .slice va vn vc] 29) = w0 at *
  have lt0 := X0.lt
  have X1 := blk_new w0 29 #[.slice none 0 0, .slice none 0 0, .slice none 0 0]
  have B1 : Below w0.heap.size w0 (w0.alloc (.cells #[.slice none 0 0, .slice none 0 0, .slice none 0 0] 29)) := (Below.refl _ _).alloc (Nat.le_refl _) _
  generalize hw1 : w0.alloc (.cells #[.slice none 0 0, .slice none 0 0, .slice none 0 0] 29) = w1 at *
  replace X0 := X0.below B1
  have D := below_then B0 B1
  clear B0 B1
  have lt1 := X1.lt
  have a0 : w1.cell? ⟨w.heap.size, 0, none⟩ = some (.slice (some ⟨tb, tq, none⟩) n tc) := X0.cell 0 rfl
  go_enter Tryd.func10, Tryd.ntmps10
  go_wp2_with fail
  clear hw0 hw1 a0
  replace X0 := X0.below ((Below.refl _ _).drew)
  replace X1 := X1.below ((Below.refl _ _).drew)
  replace D := D.drew
  replace lt1 : w0.heap.size < w1.drew.heap.size := lt1
  refine wp_region_held_drew (S := fun w' => Blk w' w.heap.size 29 #[.slice (some ⟨tb, tq, none⟩) n tc, .slice ka kn kc, .slice va vn vc]) (by kernel_rfl) (X0) (fun hHeld => ?_)
  generalize hA : w1.drew = wA at *
  clear hA
  refine wpAnyH_take (i := 0) (v := (.pointer (some ⟨w.heap.size, 0, none⟩))) rfl (by kernel_rfl) (by kernel_rfl) (by kernel_rfl) (fun _ _ _ h => h) (Or.inl ⟨by rfl, ?_⟩) (by assumption) ?_
  · intro w' hSw
    go_simp
  simp only [List.getElem_toArray, List.getElem_cons_zero, Act.put, List.setIfInBounds_toArray, List.set_cons_zero, List.set_cons_succ]
  refine wpAnyH_take (i := 1) (v := (.slice (some ⟨tb, tq, none⟩) n tc)) rfl (by kernel_rfl) (by kernel_rfl) (by kernel_rfl) (fun _ _ _ h => h) (Or.inl ⟨by rfl, ?_⟩) (by assumption) ?_
  · intro w' hSw
    have cc0 : w'.cell? ⟨w.heap.size, 0, none⟩ = some (.slice (some ⟨tb, tq, none⟩) n tc) := hSw.cell 0 rfl
    go_simp
  simp only [List.getElem_toArray, List.getElem_cons_succ, List.getElem_cons_zero, Act.put, List.setIfInBounds_toArray, List.set_cons_zero, List.set_cons_succ]
  refine wpAnyH_take (i := 2) (v := (.int .i64 (n : Int))) rfl (by kernel_rfl) (by kernel_rfl) (by kernel_rfl) (fun _ _ _ h => h) (Or.inl ⟨by rfl, ?_⟩) (by assumption) ?_
  · intro w' hSw
    go_simp
  simp only [List.getElem_toArray, List.getElem_cons_succ, List.getElem_cons_zero, Act.put, List.setIfInBounds_toArray, List.set_cons_zero, List.set_cons_succ]
  refine wpAnyH_take (i := 3) (v := (.slice (some ⟨tb, tq, none⟩) n tc)) rfl (by kernel_rfl) (by kernel_rfl) (by kernel_rfl) (fun _ _ _ h => h) (Or.inl ⟨by rfl, ?_⟩) (by assumption) ?_
  · intro w' hSw
    go_simp
  simp only [List.getElem_toArray, List.getElem_cons_succ, List.getElem_cons_zero, Act.put, List.setIfInBounds_toArray, List.set_cons_zero, List.set_cons_succ]
  refine wpAnyH_take (i := 4) (v := (.pointer (some ⟨w.heap.size, 1, none⟩))) rfl (by kernel_rfl) (by kernel_rfl) (by kernel_rfl) (fun _ _ _ h => h) (Or.inl ⟨by rfl, ?_⟩) (by assumption) ?_
  · intro w' hSw
    go_simp
  simp only [List.getElem_toArray, List.getElem_cons_succ, List.getElem_cons_zero, Act.put, List.setIfInBounds_toArray, List.set_cons_zero, List.set_cons_succ]
  refine wpAnyH_take (i := 5) (v := (.slice ka kn kc)) rfl (by kernel_rfl) (by kernel_rfl) (by kernel_rfl) (fun _ _ _ h => h) (Or.inl ⟨by rfl, ?_⟩) (by assumption) ?_
  · intro w' hSw
    have cc1 : w'.cell? ⟨w.heap.size, 1, none⟩ = some (.slice ka kn kc) := hSw.cell 1 rfl
    go_simp
  simp only [List.getElem_toArray, List.getElem_cons_succ, List.getElem_cons_zero, Act.put, List.setIfInBounds_toArray, List.set_cons_zero, List.set_cons_succ]
  refine wpAnyH_take (i := 6) (v := (.int .i64 (n : Int))) rfl (by kernel_rfl) (by kernel_rfl) (by kernel_rfl) (fun _ _ _ h => h) (Or.inl ⟨by rfl, ?_⟩) (by assumption) ?_
  · intro w' hSw
    go_simp
  simp only [List.getElem_toArray, List.getElem_cons_succ, List.getElem_cons_zero, Act.put, List.setIfInBounds_toArray, List.set_cons_zero, List.set_cons_succ]
  refine wpAnyH_take (i := 8) (v := (.pointer (some ⟨w.heap.size, 2, none⟩))) rfl (by kernel_rfl) (by kernel_rfl) (by kernel_rfl) (fun _ _ _ h => h) (Or.inl ⟨by rfl, ?_⟩) (by assumption) ?_
  · intro w' hSw
    go_simp
  simp only [List.getElem_toArray, List.getElem_cons_succ, List.getElem_cons_zero, Act.put, List.setIfInBounds_toArray, List.set_cons_zero, List.set_cons_succ]
  refine wpAnyH_take (i := 9) (v := (.slice va vn vc)) rfl (by kernel_rfl) (by kernel_rfl) (by kernel_rfl) (fun _ _ _ h => h) (Or.inl ⟨by rfl, ?_⟩) (by assumption) ?_
  · intro w' hSw
    have cc2 : w'.cell? ⟨w.heap.size, 2, none⟩ = some (.slice va vn vc) := hSw.cell 2 rfl
    go_simp
  simp only [List.getElem_toArray, List.getElem_cons_succ, List.getElem_cons_zero, Act.put, List.setIfInBounds_toArray, List.set_cons_zero, List.set_cons_succ]
  refine wpAnyH_take (i := 10) (v := (.int .i64 (n : Int))) rfl (by kernel_rfl) (by kernel_rfl) (by kernel_rfl) (fun _ _ _ h => h) (Or.inl ⟨by rfl, ?_⟩) (by assumption) ?_
  · intro w' hSw
    go_simp
  simp only [List.getElem_toArray, List.getElem_cons_succ, List.getElem_cons_zero, Act.put, List.setIfInBounds_toArray, List.set_cons_zero, List.set_cons_succ]
  refine wpAnyH_ready (rs := [7]) (by kernel_rfl) (by simp) ?_
  refine AllReadyH.cons rfl (fun Kc hKc => ?_) AllReadyH.nil
  simp only [List.getElem_toArray, List.getElem_cons_succ, List.getElem_cons_zero]
  rw [if_pos (by rfl)]
  go_wp2_with fail
  refine (rcut9_any ka kn kc n X.K w _ (HK.out _ (Below.refl _ _)) D lk' (by omega)).mono ?_
  rintro e w3 ⟨kg, kc2, rfl, NK, B3⟩
  have z3 := B3.size
  have z2 := D.size
  replace X0 := X0.below B3
  replace X1 := X1.below B3
  replace D := below_then D B3
  go_wp2_with fail
  refine hKc.out _ _ (X0) (fun hHeld => ?_)
  clear hKc Kc
  refine wpAnyH_ready (rs := [11]) (by kernel_rfl) (by simp) ?_
  refine AllReadyH.cons rfl (fun Kc hKc => ?_) AllReadyH.nil
  simp only [List.getElem_toArray, List.getElem_cons_succ, List.getElem_cons_zero]
  rw [if_pos (by rfl)]
  go_wp2_with fail
  refine (rcut9_any va vn vc n X.V w _ (HV.out _ (Below.refl _ _)) D lv' (by omega)).mono ?_
  rintro e w4 ⟨vg, vc2, rfl, NV, B4⟩
  replace NK := Hangs.below NK B4
  replace X0 := X0.below B4
  replace X1 := X1.below B4
  replace D := below_then D B4
  go_wp2_with fail
  refine hKc.out _ _ (X0) (fun hHeld => ?_)
  clear hKc Kc
  refine wpAnyH_take (i := 12) (v := (.agg #[.slice (some ⟨tb, tq, none⟩) n tc, .slice (some ⟨kg, 0, none⟩) kn kc2, .slice (some ⟨vg, 0, none⟩) vn vc2])) rfl (by kernel_rfl) (by kernel_rfl) (by kernel_rfl) (fun _ _ _ h => h) (Or.inl ⟨by rfl, ?_⟩) (by assumption) ?_
  · intro w' hSw
    go_simp
  simp only [List.getElem_toArray, List.getElem_cons_succ, List.getElem_cons_zero, Act.put, List.setIfInBounds_toArray, List.set_cons_zero, List.set_cons_succ]
  refine wpAnyH_ready (rs := [13]) (by kernel_rfl) (by simp) ?_
  refine AllReadyH.cons rfl (fun Kc hKc => ?_) AllReadyH.nil
  simp only [List.getElem_toArray, List.getElem_cons_succ, List.getElem_cons_zero]
  rw [if_pos (by rfl)]
  have hall : Array.all (#[.slice (some ⟨tb, tq, none⟩) n tc, .slice (some ⟨kg, 0, none⟩) kn kc2, .slice (some ⟨vg, 0, none⟩) vn vc2] : Array Value) (fun v => v.oneCell') = true := by simp [Value.oneCell']
  refine wp_store_row 29 _ _ rfl w0.heap.size #[.slice (some ⟨tb, tq, none⟩) n tc, .slice (some ⟨kg, 0, none⟩) kn kc2, .slice (some ⟨vg, 0, none⟩) vn vc2] rfl rfl 29 _ X1 Tryd.infoRV rfl hall ?_
  refine hKc.out _ _ (Blk.of_block X0 (setRow_other _ _ _ _ (by omega))) (fun hHeld => ?_)
  clear hKc Kc
  refine wpAnyH_done (by kernel_rfl) ?_ _
  clear hHeld
  go_wp2
  refine bodyPost_ret (results_cell_row rfl _ _ w0.heap.size 29 _ _ _ rfl (X1.row _) Tryd.underlying29 rfl Tryd.infoRV) rfl ?_
  have DD : Below w.heap.size w (w4.setRow w0.heap.size #[.slice (some ⟨tb, tq, none⟩) n tc, .slice (some ⟨kg, 0, none⟩) kn kc2, .slice (some ⟨vg, 0, none⟩) vn vc2]) := below_setRow D (by omega) _
  have IT := ((HT.out _ DD).take (Nat.le_refl _))
  have QK := (Hangs.row NK (g := w0.heap.size) (by show ¬ (_ ∨ _ ≤ _); omega) #[.slice (some ⟨tb, tq, none⟩) n tc, .slice (some ⟨kg, 0, none⟩) kn kc2, .slice (some ⟨vg, 0, none⟩) vn vc2]).now
  have QV := (Hangs.row NV (g := w0.heap.size) (by show ¬ (_ ∨ _ ≤ _); omega) #[.slice (some ⟨tb, tq, none⟩) n tc, .slice (some ⟨kg, 0, none⟩) kn kc2, .slice (some ⟨vg, 0, none⟩) vn vc2]).now
  have oth : ∀ b, b < w4.heap.size → b ≠ w0.heap.size → (w4.setRow w0.heap.size #[.slice (some ⟨tb, tq, none⟩) n tc, .slice (some ⟨kg, 0, none⟩) kn kc2, .slice (some ⟨vg, 0, none⟩) vn vc2]).heap[b]? = w4.heap[b]? := fun b _ hb => setRow_other _ _ _ _ hb
  exact ⟨⟨some ⟨tb, tq, none⟩, n, tc⟩, ⟨some ⟨kg, 0, none⟩, kn, kc2⟩, ⟨some ⟨vg, 0, none⟩, vn, vc2⟩, rfl, ⟨IT, QK, QV⟩, DD⟩
set_option maxRecDepth 100000 in
set_option maxHeartbeats 800000 in
theorem rcutR_none (t k v : Sl) (X : Vw) (nn : Int) (w : World) (hv : ToldAt w t k v X) (hn : nn < 1 ∨ X.T.length = 0) :
   Calls Tryd.prog 10 #[.agg #[t.v, k.v, v.v], .int .i64 nn] w fun e w' => e = .returned (.agg #[.slice none 0 0, .slice none 0 0, .slice none 0 0]) ∧ Below w.heap.size w w' := by
  have lt := hv.t.row.len
  have mx := hv.t.row.max
  clear hv
  obtain ⟨ta, tn, tc⟩ := t
  obtain ⟨ka, kn, kc⟩ := k
  obtain ⟨va, vn, vc⟩ := v
  unfold Sl.v
  simp only at *
  rw [lt] at hn
  clear lt
  have X0 := blk_new w 29 #[.slice ta tn tc, .slice ka kn kc, .slice va vn vc]
  have B0 : Below w.heap.size w (w.alloc (.cells #[.slice ta tn tc, .slice ka kn kc, .slice va vn vc] 29)) := (Below.refl _ _).alloc (Nat.le_refl _) _
  have s0 : w.heap.size < (w.alloc (.cells #[.slice ta tn tc, .slice ka kn kc, .slice va vn vc] 29)).heap.size := by simp
  generalize hw0 : w.alloc (.cells #[.slice ta tn tc, .slice ka kn kc, .slice va vn vc] 29) = w0 at *
  have X1 := blk_new w0 29 #[.slice none 0 0, .slice none 0 0, .slice none 0 0]
  have B1 : Below w0.heap.size w0 (w0.alloc (.cells #[.slice none 0 0, .slice none 0 0, .slice none 0 0] 29)) := (Below.refl _ _).alloc (Nat.le_refl _) _
  generalize hw1 : w0.alloc (.cells #[.slice none 0 0, .slice none 0 0, .slice none 0 0] 29) = w1 at *
  replace X0 := X0.below B1
  have D := below_then B0 B1
  have X2 := X1.row #[.slice none 0 0, .slice none 0 0, .slice none 0 0]
  have BR := below_setRow (Below.refl w0.heap.size w1) (Nat.le_refl _) #[.slice none 0 0, .slice none 0 0, .slice none 0 0]
  generalize hw2 : w1.setRow w0.heap.size #[.slice none 0 0, .slice none 0 0, .slice none 0 0] = w2 at *
  have D2 : Below w.heap.size w w2 := D.trans (BR.mono (by omega))
  have a0 : w1.cell? ⟨w.heap.size, 0, none⟩ = some (.slice ta tn tc) := X0.cell 0 rfl
  clear B0 B1 D BR
  have hm : ¬ (tn : Int) < 0 := by omega
  by_cases hgt : (tn : Int) < nn
  · have h1 : (tn : Int) < 1 := by omega
    clear hn
    go_enter Tryd.func10, Tryd.ntmps10
    go_wp2_with (refine wpList_store_row rfl 29 _ _ rfl w0.heap.size #[.slice none 0 0, .slice none 0 0, .slice none 0 0] rfl rfl 29 _ X1 (by exact Tryd.infoRV) rfl (by simp [Value.oneCell']) ?_; rw [hw2])
    refine bodyPost_ret (results_cell_row rfl _ _ w0.heap.size 29 _ _ _ rfl X2 Tryd.underlying29 rfl Tryd.infoRV) rfl ?_
    exact ⟨rfl, D2⟩
  · have h1 : nn < 1 := by omega
    clear hn
    go_enter Tryd.func10, Tryd.ntmps10
    go_wp2_with (refine wpList_store_row rfl 29 _ _ rfl w0.heap.size #[.slice none 0 0, .slice none 0 0, .slice none 0 0] rfl rfl 29 _ X1 (by exact Tryd.infoRV) rfl (by simp [Value.oneCell']) ?_; rw [hw2])
    refine bodyPost_ret (results_cell_row rfl _ _ w0.heap.size 29 _ _ _ rfl X2 Tryd.underlying29 rfl Tryd.infoRV) rfl ?_
    exact ⟨rfl, D2⟩
/-- The first n tokens of a view, of none nothing. -/
def cutAny (X : Vw) (n : Int) : Vw := if n < 1 ∨ X.T.length = 0 then noX else cutV X (min n.toNat X.T.length)
theorem told_noX (w : World) : ToldAt w ⟨none, 0, 0⟩ ⟨none, 0, 0⟩ ⟨none, 0, 0⟩ noX := ⟨iarg_nil w, ⟨rfl, Nat.zero_le _, fun h => by simp at h⟩, ⟨rfl, Nat.zero_le _, fun h => by simp at h⟩⟩
theorem rowsN_take (R : List (List Int)) (n m : Nat) (h : rowsN R m = R) : rowsN (R.take n) m = R.take n := by
  unfold rowsN at h ⊢
  rw [List.take_take, Nat.min_comm, ← List.take_take, List.map_take, h]
theorem cutVw_cut {X : Vw} (n : Nat) (hX : cutVw X = X) : cutVw (cutV X n) = cutV X n := by
  have h1 : X.T.take 130 = X.T := congrArg Vw.T hX
  have h2 : cutC X.K 130 = X.K := congrArg Vw.K hX
  have h3 : cutC X.V 130 = X.V := congrArg Vw.V hX
  have key : ∀ C : List (List (List Int)), cutC C 130 = C → cutC (C.map (List.take n)) 130 = C.map (List.take n) := fun C h => by
    have hl : C.length ≤ 5 := by rw [← h]; exact cutC_at_most _ _
    unfold cutC
    rw [List.take_of_length_le (by rw [List.length_map]; omega), List.map_map]
    apply List.map_congr_left
    intro R hR
    exact rowsN_take R n 130 (cutC_mem (by rw [h]; exact hR)).2.2
  show Vw.mk _ _ _ = Vw.mk _ _ _
  rw [show (cutV X n).K = X.K.map (List.take n) from rfl, show (cutV X n).V = X.V.map (List.take n) from rfl, show (cutV X n).T = X.T.take n from rfl, key _ h2, key _ h3, List.take_take, Nat.min_comm, ← List.take_take, h1]
theorem cutVw_any {X : Vw} (n : Int) (hX : cutVw X = X) : cutVw (cutAny X n) = cutAny X n := by
  unfold cutAny
  split
  · rfl
  · exact cutVw_cut _ hX
theorem scutA_any (vv : VwV) (X : Vw) (nn : Int) (w : World) (hv : VwAt w vv X) (hX : cutVw X = X) :
   Calls Tryd.prog 9 #[.agg vv.cells, .int .i64 nn] w fun e w' => ∃ v2 : VwV, e = .returned (.agg v2.cells) ∧ VwAt w' v2 (cutAny X nn) ∧ Below w.heap.size w w' := by
  obtain ⟨h1, h2, h3, h4, h5⟩ := cutVw_bounds hX
  have r4 : ∀ R ∈ X.K, R.length ≤ 4096 ∧ ∀ t, (rowOf R t).length ≤ 1048576 := fun R hR => ⟨by have := (h4 R hR).1; omega, fun t => by have := (h4 R hR).2.1 t; omega⟩
  have r5 : ∀ R ∈ X.V, R.length ≤ 4096 ∧ ∀ t, (rowOf R t).length ≤ 1048576 := fun R hR => ⟨by have := (h5 R hR).1; omega, fun t => by have := (h5 R hR).2.1 t; omega⟩
  unfold cutAny
  by_cases hz : nn < 1 ∨ X.T.length = 0
  · rw [if_pos hz]
    refine (scutR_none vv X nn w hv hz).mono ?_
    rintro e w' ⟨rfl, B⟩
    exact ⟨⟨⟨none, 0, 0⟩, ⟨none, 0, 0⟩, ⟨none, 0, 0⟩⟩, rfl, ⟨iarg_nil _, (told_noX _).k, (told_noX _).v⟩, B⟩
  · rw [if_neg hz]
    by_cases hg : (X.T.length : Int) < nn
    · rw [show min nn.toNat X.T.length = X.T.length by omega]
      refine (scutR_gt vv X nn X.T.length w hv (by omega) rfl hg (by omega) (by omega) (by omega) r4 r5).mono ?_
      rintro e w' ⟨v2, rfl, N, B⟩
      exact ⟨v2, rfl, N.now, B⟩
    · obtain ⟨m, rfl⟩ : ∃ m : Nat, nn = (m : Int) := ⟨nn.toNat, by omega⟩
      rw [show min ((m : Int)).toNat X.T.length = m by omega]
      refine (scutR_le vv X m w hv (by omega) (by omega) (by omega) (by omega) (by omega) r4 r5).mono ?_
      rintro e w' ⟨v2, rfl, N, B⟩
      exact ⟨v2, rfl, N.now, B⟩
theorem rcutA_any (t k v : Sl) (X : Vw) (nn : Int) (w : World) (hv : ToldAt w t k v X) (hX : cutVw X = X) :
   Calls Tryd.prog 10 #[.agg #[t.v, k.v, v.v], .int .i64 nn] w fun e w' => ∃ t2 k2 v2 : Sl, e = .returned (.agg #[t2.v, k2.v, v2.v]) ∧ ToldAt w' t2 k2 v2 (cutAny X nn) ∧ Below w.heap.size w w' := by
  unfold cutAny
  by_cases hz : nn < 1 ∨ X.T.length = 0
  · rw [if_pos hz]
    refine (rcutR_none t k v X nn w hv hz).mono ?_
    rintro e w' ⟨rfl, B⟩
    exact ⟨⟨none, 0, 0⟩, ⟨none, 0, 0⟩, ⟨none, 0, 0⟩, rfl, told_noX _, B⟩
  · rw [if_neg hz]
    by_cases hg : (X.T.length : Int) < nn
    · rw [show min nn.toNat X.T.length = X.T.length by omega]
      exact rcutR_gt t k v X nn X.T.length w hv (by omega) rfl hg hX
    · obtain ⟨m, rfl⟩ : ∃ m : Nat, nn = (m : Int) := ⟨nn.toNat, by omega⟩
      rw [show min ((m : Int)).toNat X.T.length = m by omega]
      exact rcutR_le t k v X m w hv (by omega) (by omega) hX
end Go.Proofs.YtmdjlaileakbeaaDoor
