/- Contracts of the program's functions, part 8 of 9: what each call returns and leaves of memory. -/
import Derived.Test.YthmpfmclbmhkfaaDoorPk7
/- Package step: All: several tokens more. -/
namespace Go.Proofs.YthmpfmclbmhkfaaDoor
open Go.ChangeShapes Go.WideShapes Go.ChangeAt Go.RowKit
/-- The view behind several tokens more, and what is liked behind the last one. -/
def feedAll (M : Mdl) (D H Hd L : Nat) (X : Vw) (A : List Int) : Vw := A.foldl (fun X t => feedV M D H Hd L X t.toNat) X
def likAt (M : Mdl) (V D H Hd L : Nat) (X : Vw) (A : List Int) : Nat → List Int
  | 0 => []
  | k + 1 => likR M V D (feedX M D H Hd L (feedAll M D H Hd L X (A.take k)) (el A k).toNat)
theorem feedAll_step (M : Mdl) (D H Hd L : Nat) (X : Vw) {A : List Int} {k : Nat} (h : k < A.length) : feedAll M D H Hd L X (A.take (k + 1)) = feedV M D H Hd L (feedAll M D H Hd L X (A.take k)) (el A k).toNat := by
  have e : A[k]? = some (el A k) := by unfold el; simp [List.getD_eq_getElem?_getD, List.getElem?_eq_getElem h]
  unfold feedAll
  rw [List.take_add_one, e, List.foldl_append]
  rfl
theorem feedAll_len (M : Mdl) (D H Hd L : Nat) (A : List Int) : ∀ X : Vw, (feedAll M D H Hd L X A).T.length = X.T.length + A.length := by
  induction A with
  | nil => intro X; rfl
  | cons a A ih =>
    intro X
    show (feedAll M D H Hd L (feedV M D H Hd L X a.toNat) A).T.length = _
    rw [ih]
    unfold feedV
    simp
    omega
theorem feedAll_fit {M : Mdl} {V D H Hd L : Nat} {A : List Int} : ∀ {X : Vw}, VwFit V D L X → A.all (tokB V) = true → X.T.length + A.length ≤ 128 → VwFit V D L (feedAll M D H Hd L X A) := by
  induction A with
  | nil => intro X hf _ _; exact hf
  | cons a A ih =>
    intro X hf ha hl
    simp only [List.all_cons, Bool.and_eq_true] at ha
    simp only [List.length_cons] at hl
    have ht : 0 ≤ a ∧ a < V := by have := ha.1; unfold tokB at this; simpa using this
    show VwFit V D L (feedAll M D H Hd L (feedV M D H Hd L X a.toNat) A)
    exact ih (fit_feed hf (by omega) (by omega)) ha.2 (by unfold feedV; simp; omega)
theorem vwv_one (v : VwV) : v.cells.all (·.oneCell') = true := by simp [VwV.cells, Sl.v, Value.oneCell']
theorem vwv_size (v : VwV) : v.cells.size = 3 := rfl
theorem prompt_ok {V : Int} {A : List Int} (h : promptN V A = 0) : 1 ≤ A.length ∧ A.length ≤ 128 ∧ A.all (tokB V) = true := by
  unfold promptN at h
  split at h
  · omega
  · split at h
    · omega
    · split at h
      · rename_i h1 h2 h3; exact ⟨by omega, by omega, h3⟩
      · omega
set_option maxRecDepth 100000 in
set_option maxHeartbeats 1600000 in
theorem all_bad (V D Hd H L : Nat) (ws cv : Array Value) (ao : Option Addr) (n ca : Nat) (A : List Int) (w : World) (hA : IArg w ao n ca A) (hp : promptN V A ≠ 0) :
   Calls Tryd.prog 8 #[.agg (cfgC V D Hd H L), .agg ws, .agg cv, .slice ao n ca] w fun e w' => e = .returned (.tuple #[.agg noV, .slice none 0 0, .int .i64 (promptN V A)]) ∧ Below w.heap.size w w' := by
  have CP := fun (wv : World) (hb : Below w.heap.size w wv) => prompt_any V D Hd H L ao n ca A wv (hA.below hb)
  have hp' : (promptN V A == 0) = false := by simpa using hp
  generalize promptN V A = q at *
  unfold cfgC at *
  have X0 := blk_new w 23 #[.int .i64 (V : Int), .int .i64 (D : Int), .int .i64 (Hd : Int), .int .i64 (H : Int), .int .i64 (L : Int)]
  have B0 : Below w.heap.size w (w.alloc (.cells #[.int .i64 (V : Int), .int .i64 (D : Int), .int .i64 (Hd : Int), .int .i64 (H : Int), .int .i64 (L : Int)] 23)) := (Below.refl _ _).alloc (Nat.le_refl _) _
  have s0 : (w.alloc (.cells #[.int .i64 (V : Int), .int .i64 (D : Int), .int .i64 (Hd : Int), .int .i64 (H : Int), .int .i64 (L : Int)] 23)).heap.size = w.heap.size + 1 := by simp
  generalize hw0 : w.alloc (.cells #[.int .i64 (V : Int), .int .i64 (D : Int), .int .i64 (Hd : Int), .int .i64 (H : Int), .int .i64 (L : Int)] 23) = w0 at *
  have X1 := blk_new w0 32 ws
  have B1 : Below w0.heap.size w0 (w0.alloc (.cells ws 32)) := (Below.refl _ _).alloc (Nat.le_refl _) _
  have s1 : (w0.alloc (.cells ws 32)).heap.size = w0.heap.size + 1 := by simp
  rw [s0] at X1 s1
  generalize hw1 : w0.alloc (.cells ws 32) = w1 at *
  have X2 := blk_new w1 42 cv
  have B2 : Below w1.heap.size w1 (w1.alloc (.cells cv 42)) := (Below.refl _ _).alloc (Nat.le_refl _) _
  have s2 : (w1.alloc (.cells cv 42)).heap.size = w1.heap.size + 1 := by simp
  rw [s1] at X2 s2
  generalize hw2 : w1.alloc (.cells cv 42) = w2 at *
  have X3 := blk_new w2 42 #[.slice none 0 0, .slice none 0 0, .slice none 0 0]
  have B3 : Below w2.heap.size w2 (w2.alloc (.cells #[.slice none 0 0, .slice none 0 0, .slice none 0 0] 42)) := (Below.refl _ _).alloc (Nat.le_refl _) _
  have s3 : (w2.alloc (.cells #[.slice none 0 0, .slice none 0 0, .slice none 0 0] 42)).heap.size = w2.heap.size + 1 := by simp
  rw [s2] at X3 s3
  generalize hw3 : w2.alloc (.cells #[.slice none 0 0, .slice none 0 0, .slice none 0 0] 42) = w3 at *
  replace X0 := ((X0.below B1).below B2).below B3
  replace X1 := (X1.below B2).below B3
  replace X2 := X2.below B3
  replace B3 := below_then (below_then (below_then B0 B1) B2) B3
  have a0 : w3.cell? ⟨w.heap.size, 0, none⟩ = some (.int .i64 (V : Int)) := X0.cell 0 rfl
  have a1 : w3.cell? ⟨w.heap.size, 1, none⟩ = some (.int .i64 (D : Int)) := X0.cell 1 rfl
  have a2 : w3.cell? ⟨w.heap.size, 2, none⟩ = some (.int .i64 (Hd : Int)) := X0.cell 2 rfl
  have a3 : w3.cell? ⟨w.heap.size, 3, none⟩ = some (.int .i64 (H : Int)) := X0.cell 3 rfl
  have a4 : w3.cell? ⟨w.heap.size, 4, none⟩ = some (.int .i64 (L : Int)) := X0.cell 4 rfl
  go_enter Tryd.func8, Tryd.ntmps8
  go_wp2_with fail
  refine (CP _ B3).mono ?_
  rintro e w4 ⟨rfl, B4⟩
  replace X3 := X3.below B4
  have D4 := below_then B3 B4
  clear a0 a1 a2 a3 a4 B3 B4 CP hw0 hw1 hw2 hw3 B0 B1 B2 s0 s1 s2 s3
  have hall : Array.all (#[.slice none 0 0, .slice none 0 0, .slice none 0 0] : Array Value) (fun v => v.oneCell') = true := by simp [Value.oneCell']
  go_wp2_with (refine wpList_store_row rfl 42 _ _ rfl (w.heap.size + 1 + 1 + 1) #[.slice none 0 0, .slice none 0 0, .slice none 0 0] rfl rfl 42 _ X3 Tryd.infoV rfl hall ?_)
  refine bodyPost_ret (results_blk3 rfl _ _ (w.heap.size + 1 + 1 + 1) _ rfl (load_v (X3.row _) rfl)) rfl ?_
  exact ⟨rfl, below_setRow D4 (by omega) _⟩
/-- Within All: boxes, and the view behind k tokens. -/
structure AI (w wr : World) (V D H Hd L : Nat) (cfg ws : Array Value) (M : Mdl) (X : Vw) (A : List Int) (k : Nat) (vv : VwV) (lv : Value) : Prop where
  x0 : Blk wr w.heap.size 23 cfg
  x1 : Blk wr (w.heap.size + 1) 32 ws
  x2 : Blk wr (w.heap.size + 2) 42 vv.cells
  x3 : Blk wr (w.heap.size + 3) 42 #[.slice none 0 0, .slice none 0 0, .slice none 0 0]
  at_ : VwAt wr vv (feedAll M D H Hd L X (A.take k))
  new : 0 < k → New (w.heap.size + 4) wr (fun w => VwAt w vv (feedAll M D H Hd L X (A.take k))) ∧ ∃ g, lv = .slice (some ⟨g, 0, none⟩) V V ∧ Fresh wr (w.heap.size + 4) g V V (likAt M V D H Hd L X A k)
  kp : Below w.heap.size w wr
  sz : w.heap.size + 3 < wr.heap.size
set_option maxRecDepth 100000 in
set_option maxHeartbeats 800000 in
theorem all_ok (V D Hd H L : Nat) (W : Wt) (bs : List Bk) (M : Mdl) (v : VwV) (X : Vw) (ao : Option Addr) (n ca : Nat) (A : List Int) (w : World) (hT : Tab w) (hG : Good w V D Hd H L W bs M) (hv : VwAt w v X) (hf : VwFit V D L X) (hA : IArg w ao n ca A) (hp : promptN V A = 0) (hs : X.T.length + A.length ≤ 128) :
   Calls Tryd.prog 8 #[.agg (cfgC V D Hd H L), .agg W.cells, .agg v.cells, .slice ao n ca] w fun e w' => ∃ vv g, e = .returned (.tuple #[.agg (VwV.cells vv), .slice (some ⟨g, 0, none⟩) V V, .int .i64 0]) ∧ New w.heap.size w' (fun w => VwAt w vv (feedAll M D H Hd L X A)) ∧ Fresh w' w.heap.size g V V (likAt M V D H Hd L X A A.length) ∧ Below w.heap.size w w' := by
  obtain ⟨p1, p2, p3⟩ := prompt_ok hp
  have CP := fun (wv : World) (hb : Below w.heap.size w wv) => prompt_any V D Hd H L ao n ca A wv (hA.below hb)
  rw [hp] at CP
  have hl := hA.row.len
  have HT : Hid (∀ wv, Below w.heap.size w wv → Tab wv) := fun wv hb => hT.next hb
  have HG : Hid (∀ wv, Below w.heap.size w wv → Good wv V D Hd H L W bs M) := fun wv hb => hG.below hb
  have HA : Hid (∀ wv, Below w.heap.size w wv → IRowAt wv ao n A) := fun wv hb => hA.row.below hb
  have HF : Hid (∀ k, k ≤ A.length → VwFit V D L (feedAll M D H Hd L X (A.take k))) := fun k hk => feedAll_fit hf (by
    rw [List.all_eq_true] at p3 ⊢
    intro x hx
    exact p3 x (List.mem_of_mem_take hx)) (by rw [List.length_take]; omega)
  have HL : Hid (∀ k, k ≤ A.length → (feedAll M D H Hd L X (A.take k)).T.length = X.T.length + k) := fun k hk => by rw [feedAll_len, List.length_take]; omega
  have HS : Hid (∀ k, k < A.length → feedAll M D H Hd L X (A.take (k + 1)) = feedV M D H Hd L (feedAll M D H Hd L X (A.take k)) (el A k).toNat) := fun k hk => feedAll_step M D H Hd L X hk
  have HK : Hid (∀ k, k < A.length → 0 ≤ el A k ∧ el A k < V) := fun k hk => by have := all_el hk p3; unfold tokB at this; simpa using this
  have CF := fun (vv : VwV) (Y : Vw) (tok : Nat) (wv : World) (h1 : Tab wv) (h2 : Y.T.length ≤ 127) (h3 : tok < V) (h4 : Good wv V D Hd H L W bs M) (h5 : VwAt wv vv Y) (h6 : VwFit V D L Y) => feed_ok V D Hd H L W bs M vv Y tok wv h1 h2 h3 h4 h5 h6
  have hv0 : VwAt w v (feedAll M D H Hd L X (A.take 0)) := hv
  have siz : W.cells.size = 8 := rfl
  clear hT hG hA hf hv
  generalize hws : W.cells = ws at *
  have siv := vwv_size v
  unfold cfgC at CP CF ⊢
  generalize hcv : v.cells = cv at *
  have X0 := blk_new w 23 #[.int .i64 (V : Int), .int .i64 (D : Int), .int .i64 (Hd : Int), .int .i64 (H : Int), .int .i64 (L : Int)]
  have B0 : Below w.heap.size w (w.alloc (.cells #[.int .i64 (V : Int), .int .i64 (D : Int), .int .i64 (Hd : Int), .int .i64 (H : Int), .int .i64 (L : Int)] 23)) := (Below.refl _ _).alloc (Nat.le_refl _) _
  have s0 : (w.alloc (.cells #[.int .i64 (V : Int), .int .i64 (D : Int), .int .i64 (Hd : Int), .int .i64 (H : Int), .int .i64 (L : Int)] 23)).heap.size = w.heap.size + 1 := by simp
  generalize hw0 : w.alloc (.cells #[.int .i64 (V : Int), .int .i64 (D : Int), .int .i64 (Hd : Int), .int .i64 (H : Int), .int .i64 (L : Int)] 23) = w0 at *
  have X1 := blk_new w0 32 ws
  have B1 : Below w0.heap.size w0 (w0.alloc (.cells ws 32)) := (Below.refl _ _).alloc (Nat.le_refl _) _
  have s1 : (w0.alloc (.cells ws 32)).heap.size = w0.heap.size + 1 := by simp
  rw [s0] at X1 s1
  generalize hw1 : w0.alloc (.cells ws 32) = w1 at *
  have X2 := blk_new w1 42 cv
  have B2 : Below w1.heap.size w1 (w1.alloc (.cells cv 42)) := (Below.refl _ _).alloc (Nat.le_refl _) _
  have s2 : (w1.alloc (.cells cv 42)).heap.size = w1.heap.size + 1 := by simp
  rw [s1] at X2 s2
  generalize hw2 : w1.alloc (.cells cv 42) = w2 at *
  have X3 := blk_new w2 42 #[.slice none 0 0, .slice none 0 0, .slice none 0 0]
  have B3 : Below w2.heap.size w2 (w2.alloc (.cells #[.slice none 0 0, .slice none 0 0, .slice none 0 0] 42)) := (Below.refl _ _).alloc (Nat.le_refl _) _
  have s3 : (w2.alloc (.cells #[.slice none 0 0, .slice none 0 0, .slice none 0 0] 42)).heap.size = w2.heap.size + 1 := by simp
  rw [s2] at X3 s3
  generalize hw3 : w2.alloc (.cells #[.slice none 0 0, .slice none 0 0, .slice none 0 0] 42) = w3 at *
  replace X0 := ((X0.below B1).below B2).below B3
  replace X1 := (X1.below B2).below B3
  replace X2 := X2.below B3
  replace B3 := below_then (below_then (below_then B0 B1) B2) B3
  replace hv0 := hv0.below B3
  have a0 : w3.cell? ⟨w.heap.size, 0, none⟩ = some (.int .i64 (V : Int)) := X0.cell 0 rfl
  have a1 : w3.cell? ⟨w.heap.size, 1, none⟩ = some (.int .i64 (D : Int)) := X0.cell 1 rfl
  have a2 : w3.cell? ⟨w.heap.size, 2, none⟩ = some (.int .i64 (Hd : Int)) := X0.cell 2 rfl
  have a3 : w3.cell? ⟨w.heap.size, 3, none⟩ = some (.int .i64 (H : Int)) := X0.cell 3 rfl
  have a4 : w3.cell? ⟨w.heap.size, 4, none⟩ = some (.int .i64 (L : Int)) := X0.cell 4 rfl
  go_enter Tryd.func8, Tryd.ntmps8
  go_wp2_with fail
  refine (CP _ B3).mono ?_
  rintro e w4 ⟨rfl, B4⟩
  have z3 := X3.lt
  have G0 : AI w w4 V D H Hd L #[.int .i64 (V : Int), .int .i64 (D : Int), .int .i64 (Hd : Int), .int .i64 (H : Int), .int .i64 (L : Int)] ws M X A 0 v (.slice none 0 0) := ⟨X0.below B4, X1.below B4, by rw [hcv]; exact X2.below B4, X3.below B4, hv0.below B4, fun h => by omega, below_then B3 B4, Nat.lt_of_lt_of_le z3 B4.size⟩
  clear a0 a1 a2 a3 a4 B3 B4 CP hw0 hw1 hw2 hw3 B0 B1 B2 s0 s1 s2 s3 X0 X1 X2 X3 hv0 siv hcv z3
  go_wp2_with fail
  go_loopg [27, 12] n (fun r i s wr => ∃ (k : Nat) (vv : VwV), k ≤ n ∧ r = n - k ∧ i = .int .i64 k ∧ AI w wr V D H Hd L #[.int .i64 (V : Int), .int .i64 (D : Int), .int .i64 (Hd : Int), .int .i64 (H : Int), .int .i64 (L : Int)] ws M X A k vv s)
  case atStart => exact ⟨0, v, by omega, by omega, rfl, G0⟩
  case round =>
    obtain ⟨k, vv, hk, rfl, rfl, G⟩ := hrel
    clear G0
    by_cases hlt : k < n
    · have R1 := HA.out wr G.kp
      obtain ⟨b, o, rfl, hc⟩ := R1.cells (by omega)
      have ck := hc k hlt
      clear hc R1
      obtain ⟨t1, t2⟩ := HK.out k (by omega)
      have EV := HS.out k (by omega)
      have FV := HF.out k (by omega)
      have LV := HL.out k (by omega)
      have HLK : Hid (likAt M V D H Hd L X A (k + 1) = likR M V D (feedX M D H Hd L (feedAll M D H Hd L X (A.take k)) (el A k).toNat)) := rfl
      obtain ⟨tk, htk⟩ : ∃ tk : Nat, el A k = tk := ⟨(el A k).toNat, by omega⟩
      rw [htk] at ck t2 EV HLK
      rw [Int.toNat_natCast] at EV HLK
      clear htk t1
      have X0 := G.x0
      have X1 := G.x1
      have X2 := G.x2
      have X3 := G.x3
      have AT := G.at_
      have KP := G.kp
      have SZ := G.sz
      clear G
      have a0 : wr.cell? ⟨w.heap.size, 0, none⟩ = some (.int .i64 (V : Int)) := X0.cell 0 rfl
      have a1 : wr.cell? ⟨w.heap.size, 1, none⟩ = some (.int .i64 (D : Int)) := X0.cell 1 rfl
      have a2 : wr.cell? ⟨w.heap.size, 2, none⟩ = some (.int .i64 (Hd : Int)) := X0.cell 2 rfl
      have a3 : wr.cell? ⟨w.heap.size, 3, none⟩ = some (.int .i64 (H : Int)) := X0.cell 3 rfl
      have a4 : wr.cell? ⟨w.heap.size, 4, none⟩ = some (.int .i64 (L : Int)) := X0.cell 4 rfl
      have one := vwv_one vv
      have siv := vwv_size vv
      have CC := CF vv (feedAll M D H Hd L X (A.take k)) tk wr (HT.out _ KP) (by omega) (by omega) (HG.out _ KP) AT FV
      generalize vv.cells = cv at *
      have LVe : Hid ((feedAll M D H Hd L X (A.take k)).T.length = X.T.length + k) := LV
      clear LV AT
      go_wp2_with (first | (refine wpList_load_row rfl 32 _ rfl (w.heap.size + 1) rfl 32 ws (0, 0) _ X1 Tryd.underlying32 rfl (by rw [siz]; exact Tryd.infoW) ?_) | (refine wpList_load_row rfl 42 _ rfl (w.heap.size + 2) rfl 42 cv (0, 0) _ X2 Tryd.underlying42 rfl (by rw [siv]; exact Tryd.infoV) ?_))
      refine CC.mono ?_
      rintro e w7 ⟨v2, g, rfl, N7, F7, B7⟩
      rw [← EV] at N7
      rw [← HLK.out] at F7
      have one2 := vwv_one v2
      have siv2 := vwv_size v2
      have HC : Hid (∀ wv, Blk wv (w.heap.size + 2) 42 v2.cells → Blk wv (w.heap.size + 2) 42 v2.cells) := fun _ h => h
      generalize hc2 : v2.cells = cw at *
      replace X0 := X0.below B7
      replace X1 := X1.below B7
      replace X2 := X2.below B7
      replace X3 := X3.below B7
      have D7 := below_then KP B7
      have z7 := B7.size
      clear a0 a1 a2 a3 a4 CC
      have XA := blk_new w7 42 #[.slice none 0 0, .slice none 0 0, .slice none 0 0]
      have BA : Below w7.heap.size w7 (w7.alloc (.cells #[.slice none 0 0, .slice none 0 0, .slice none 0 0] 42)) := (Below.refl _ _).alloc (Nat.le_refl _) _
      generalize hwa : w7.alloc (.cells #[.slice none 0 0, .slice none 0 0, .slice none 0 0] 42) = wa at *
      have XB := XA.row cw
      have BB := below_setRow BA (Nat.le_refl _) cw
      generalize hwb : wa.setRow w7.heap.size cw = wb at *
      replace X0 := X0.below BB
      replace X1 := X1.below BB
      replace X2 := X2.below BB
      replace X3 := X3.below BB
      replace N7 := N7.below BB
      replace F7 := F7.below BB
      have DB := below_then D7 BB
      have zb := BB.size
      go_wp2_with (first | (refine wpList_store_row rfl 42 _ _ rfl w7.heap.size cw rfl rfl 42 _ XA (by rw [siv2]; exact Tryd.infoV) (by rw [siv2]; rfl) one2 ?_; rw [hwb]) | (refine wpList_load_row rfl 42 _ rfl w7.heap.size rfl 42 cw (0, 0) _ XB Tryd.underlying42 rfl (by rw [siv2]; exact Tryd.infoV) ?_) | (refine wpList_store_row rfl 42 _ _ rfl (w.heap.size + 2) cw rfl rfl 42 _ X2 (by rw [siv2]; exact Tryd.infoV) (by rw [siv, siv2]) one2 ?_))
      have so : ∀ b, b ≠ w.heap.size + 2 → (wb.setRow (w.heap.size + 2) cw).heap[b]? = wb.heap[b]? := fun b hb => setRow_other _ _ _ _ hb
      have N8 := N7.row (g := w.heap.size + 2) (by omega) cw
      go_roundg (n - (k + 1))
      case measure => omega
      case rel =>
        refine ⟨k + 1, v2, by omega, rfl, by go_num, ⟨Blk.of_block X0 (so _ (by omega)), Blk.of_block X1 (so _ (by omega)), ?_, Blk.of_block X3 (so _ (by omega)), N8.now, fun _ => ⟨N8.mono (by omega), g, rfl, (F7.of_block (so g (F7.ne X2 (by decide)))).mono (by omega)⟩, below_setRow DB (by omega) _, ?_⟩⟩
        · rw [hc2]; exact X2.row cw
        · have := DB.size
          show _ < (wb.setRow _ _).heap.size
          simp [World.setRow]
          omega
    · obtain rfl : k = n := by omega
      obtain ⟨N9, g, rfl, F9⟩ := G.new (by omega)
      rw [← hl, List.take_length] at N9
      rw [← hl] at F9
      have X2 := G.x2
      have X3 := G.x3
      have KP := G.kp
      clear G
      have one := vwv_one vv
      have siv := vwv_size vv
      generalize hc2 : vv.cells = cw at *
      go_wp2_with (first | (refine wpList_load_row rfl 42 _ rfl (w.heap.size + 2) rfl 42 cw (0, 0) _ X2 Tryd.underlying42 rfl (by rw [siv]; exact Tryd.infoV) ?_) | (refine wpList_store_row rfl 42 _ _ rfl (w.heap.size + 3) cw rfl rfl 42 _ X3 (by rw [siv]; exact Tryd.infoV) (by rw [siv]; rfl) one ?_))
      refine bodyPost_ret (results_blk3 rfl _ _ (w.heap.size + 3) _ rfl (load_v (X3.row _) siv)) rfl ?_
      refine ⟨vv, g, by rw [hc2]; rfl, (N9.row (by omega) _).mono (by omega), (F9.of_block (setRow_other _ _ _ _ (F9.ne X3 (by decide)))).mono (by omega), below_setRow KP (by omega) _⟩
end Go.Proofs.YthmpfmclbmhkfaaDoor

/- Package pass: Full: how much a model likes each token behind a row of them, from the beginning. -/
namespace Go.Proofs.YthmpfmclbmhkfaaDoor
open Go.ChangeShapes Go.WideShapes Go.ChangeAt Go.RowKit
/-- The first rows of tokens; what l layers make of them. -/
def begL (E : List Int) (D : Nat) (A : List Int) : List (List Int) := (List.range A.length).map fun t => begR E D (el A t).toNat t
def rowsL (M : Mdl) (D H Hd : Nat) (A : List Int) : Nat → List (List Int)
  | 0 => begL M.E D A
  | l + 1 => madeR (layAt M l) D H Hd (rowsL M D H Hd A l)
def fullK (M : Mdl) (D H Hd L : Nat) (A : List Int) : List (List (List Int)) := (List.range L).map fun l => keysR (layAt M l) D (rowsL M D H Hd A l)
def fullV (M : Mdl) (D H Hd L : Nat) (A : List Int) : List (List (List Int)) := (List.range L).map fun l => valsR (layAt M l) D (rowsL M D H Hd A l)
def fullX (M : Mdl) (V D H Hd L : Nat) (A : List Int) : List Int := likR M V D (rowOf (rowsL M D H Hd A L) (A.length - 1))
theorem rowsL_len (M : Mdl) (D H Hd : Nat) (A : List Int) : ∀ l, (rowsL M D H Hd A l).length = A.length
  | 0 => by show (begL M.E D A).length = _; unfold begL; simp
  | l + 1 => by show (madeR _ _ _ _ (rowsL M D H Hd A l)).length = _; unfold madeR; simp [rowsL_len M D H Hd A l]
theorem rowsL_row (M : Mdl) (D H Hd : Nat) (A : List Int) : ∀ l t, t < A.length → (rowOf (rowsL M D H Hd A l) t).length = D
  | 0, t, h => by
    show (rowOf (begL M.E D A) t).length = D
    unfold rowOf begL
    rw [List.getD_eq_getElem?_getD, List.getElem?_map, List.getElem?_range h]
    exact tab_len _ _
  | l + 1, t, h => by
    show (rowOf (madeR _ _ _ _ (rowsL M D H Hd A l)) t).length = D
    rw [madeR_at _ _ _ _ (by rw [rowsL_len]; exact h)]
    exact tab_len _ _
theorem begL_at (E : List Int) (D : Nat) {A : List Int} {t : Nat} (h : t < A.length) : rowOf (begL E D A) t = begR E D (el A t).toNat t := by
  unfold rowOf begL
  rw [List.getD_eq_getElem?_getD, List.getElem?_map, List.getElem?_range h]
  rfl
theorem fullK_at (M : Mdl) (D H Hd L : Nat) (A : List Int) {l : Nat} (h : l < L) : (fullK M D H Hd L A).getD l [] = keysR (layAt M l) D (rowsL M D H Hd A l) := by
  unfold fullK
  rw [List.getD_eq_getElem?_getD, List.getElem?_map, List.getElem?_range h]
  rfl
theorem fullV_at (M : Mdl) (D H Hd L : Nat) (A : List Int) {l : Nat} (h : l < L) : (fullV M D H Hd L A).getD l [] = valsR (layAt M l) D (rowsL M D H Hd A l) := by
  unfold fullV
  rw [List.getD_eq_getElem?_getD, List.getElem?_map, List.getElem?_range h]
  rfl
theorem Tryd.infoCa : (Tryd.prog.info? 40).map (·.size) = some 2 := by kernel_rfl
theorem load_ca {w : World} {g : Nat} {cs : Array Value} (h : Blk w g 40 cs) (hs : cs.size = 2) : (loadVar 40 ⟨g, 0, none⟩).run Tryd.prog w = .ok (.agg cs) w :=
  run_loadVar_row w g _ _ cs _ _ h Tryd.underlying40 rfl (by rw [hs]; exact Tryd.infoCa)
theorem results_mid {fn : Func} {p u v : Tmp} {ty : TypeId} (h : fn.results = #[.tmp u, .cell p ty, .tmp v]) (tmps : Array Value) (w : World) (g : Nat) (cs : Array Value)
    (hp : tmps.getD p undef = .pointer (some ⟨g, 0, none⟩)) (hl : (loadVar ty ⟨g, 0, none⟩).run Tryd.prog w = .ok (.agg cs) w) :
    (results fn tmps).run Tryd.prog w = .ok (.tuple #[tmps.getD u undef, .agg cs, tmps.getD v undef]) w := by
  have hp' : tmps[p]?.getD undef = .pointer (some ⟨g, 0, none⟩) := by simpa using hp
  simp [results, h, hp', asAddr, hl]
def offF (w : World) (gK gV gC b : Nat) : Prop := w.heap.size + 2 < b ∧ b ≠ gK ∧ b ≠ gV ∧ b ≠ gC
/-- Within Full: boxes, the cache, and its lists up to layer t. -/
structure FI (w wr : World) (cfg ws : Array Value) (gC gK gV L t : Nat) (A1 A2 : List (List (List Int))) : Prop where
  x0 : Blk wr w.heap.size 23 cfg
  x1 : Blk wr (w.heap.size + 1) 32 ws
  x2 : Blk wr (w.heap.size + 2) 40 #[.slice none 0 0, .slice none 0 0]
  xc : Blk wr gC 40 #[.slice (some ⟨gK, 0, none⟩) L L, .slice (some ⟨gV, 0, none⟩) L L]
  k : KV wr gK L t (offF w gK gV gC) A1 []
  v : KV wr gV L t (offF w gK gV gC) A2 []
  ne : w.heap.size + 2 < gK ∧ w.heap.size + 2 < gV ∧ w.heap.size + 2 < gC ∧ gK ≠ gV ∧ gK ≠ gC ∧ gV ≠ gC
  kp : Below w.heap.size w wr
theorem FI.below {w wr w' : World} {cfg ws : Array Value} {gC gK gV L t : Nat} {A1 A2 : List (List (List Int))} (h : FI w wr cfg ws gC gK gV L t A1 A2) (hb : Below wr.heap.size wr w') : FI w w' cfg ws gC gK gV L t A1 A2 :=
  ⟨h.x0.below hb, h.x1.below hb, h.x2.below hb, h.xc.below hb, h.k.below hb, h.v.below hb, h.ne, below_then h.kp hb⟩
theorem FI.next {w wr : World} {cfg ws : Array Value} {gC gK gV L t : Nat} {A1 A2 : List (List (List Int))} (h : FI w wr cfg ws gC gK gV L t A1 A2) (ht : t < L) {r1 r2 n : Nat} {vs1 vs2 : List Value} (hn : n ≤ 9223372036854775807) (N1 : Hangs (offF w gK gV gC) wr fun w => GridV w (some ⟨r1, 0, none⟩) n vs1 (A1.getD t [])) (N2 : Hangs (offF w gK gV gC) wr fun w => GridV w (some ⟨r2, 0, none⟩) n vs2 (A2.getD t [])) :
    FI w ((wr.setCell ⟨gK, t, none⟩ (.slice (some ⟨r1, 0, none⟩) n n)).setCell ⟨gV, t, none⟩ (.slice (some ⟨r2, 0, none⟩) n n)) cfg ws gC gK gV L (t + 1) A1 A2 := by
  obtain ⟨e1, e2, e3, e4, e5, e6⟩ := h.ne
  have pk : ¬ offF w gK gV gC gK := fun h => h.2.1 rfl
  have pv : ¬ offF w gK gV gC gV := fun h => h.2.2.1 rfl
  refine ⟨(h.x0.other (by show _ ≠ gK; omega) _).other (by show _ ≠ gV; omega) _, (h.x1.other (by show _ ≠ gK; omega) _).other (by show _ ≠ gV; omega) _, (h.x2.other (by show _ ≠ gK; omega) _).other (by show _ ≠ gV; omega) _, (h.xc.other (by show _ ≠ gK; omega) _).other (by show _ ≠ gV; omega) _, ?_, ?_, h.ne, ?_⟩
  · exact (h.k.step ht pk (fun h => by cases h) (Nat.le_refl _) hn N1).far (by show gV ≠ gK; omega) pv _
  · exact (h.v.far (by show gK ≠ gV; omega) pk _).step ht pv (fun h => by cases h) (Nat.le_refl _) hn (N2.set pk _)
  · exact (h.kp.setCell (p := ⟨gK, t, none⟩) (by show w.heap.size ≤ gK; omega) _).setCell (p := ⟨gV, t, none⟩) (by show w.heap.size ≤ gV; omega) _
theorem Hangs.setRowFar {p : Nat → Prop} {w : World} {Φ : World → Prop} (h : Hangs p w Φ) {g : Nat} (hg : ¬ p g) (cs : Array Value) : Hangs p (w.setRow g cs) Φ := h.row hg cs
set_option maxRecDepth 100000 in
set_option maxHeartbeats 1600000 in
theorem full_bad (V D Hd H L : Nat) (W : Wt) (bs : List Bk) (M : Mdl) (ao : Option Addr) (n ca : Nat) (A : List Int) (w : World) (hG : Good w V D Hd H L W bs M) (hA : IArg w ao n ca A) (hq : promptN V A ≠ 0) :
   Calls Tryd.prog 17 #[.agg (cfgC V D Hd H L), .agg W.cells, .slice ao n ca] w fun e w' => e = .returned (.tuple #[.slice none 0 0, .agg #[.slice none 0 0, .slice none 0 0], .int .i64 (promptN V A)]) ∧ Below w.heap.size w w' := by
  obtain ⟨q1, q2, q3, q4, q5, q6, q7, q8, q9, q10⟩ := shape_ok hG.shape
  have CK := fun (wv : World) (hb : Below w.heap.size w wv) => check_good (hG.below hb)
  have CP := fun (wv : World) (hb : Below w.heap.size w wv) => prompt_any V D Hd H L ao n ca A wv (hA.below hb)
  have siz : W.cells.size = 8 := rfl
  have hq' : (promptN V A == 0) = false := by simpa using hq
  generalize promptN V A = q at *
  generalize hws : W.cells = ws at *
  unfold cfgC at CK CP ⊢
  have X0 := blk_new w 23 #[.int .i64 (V : Int), .int .i64 (D : Int), .int .i64 (Hd : Int), .int .i64 (H : Int), .int .i64 (L : Int)]
  have B0 : Below w.heap.size w (w.alloc (.cells #[.int .i64 (V : Int), .int .i64 (D : Int), .int .i64 (Hd : Int), .int .i64 (H : Int), .int .i64 (L : Int)] 23)) := (Below.refl _ _).alloc (Nat.le_refl _) _
  have s0 : (w.alloc (.cells #[.int .i64 (V : Int), .int .i64 (D : Int), .int .i64 (Hd : Int), .int .i64 (H : Int), .int .i64 (L : Int)] 23)).heap.size = w.heap.size + 1 := by simp
  generalize hw0 : w.alloc (.cells #[.int .i64 (V : Int), .int .i64 (D : Int), .int .i64 (Hd : Int), .int .i64 (H : Int), .int .i64 (L : Int)] 23) = w0 at *
  have X1 := blk_new w0 32 ws
  have B1 : Below w0.heap.size w0 (w0.alloc (.cells ws 32)) := (Below.refl _ _).alloc (Nat.le_refl _) _
  have s1 : (w0.alloc (.cells ws 32)).heap.size = w0.heap.size + 1 := by simp
  rw [s0] at X1 s1
  generalize hw1 : w0.alloc (.cells ws 32) = w1 at *
  have X2 := blk_new w1 40 #[.slice none 0 0, .slice none 0 0]
  have B2 : Below w1.heap.size w1 (w1.alloc (.cells #[.slice none 0 0, .slice none 0 0] 40)) := (Below.refl _ _).alloc (Nat.le_refl _) _
  have s2 : (w1.alloc (.cells #[.slice none 0 0, .slice none 0 0] 40)).heap.size = w1.heap.size + 1 := by simp
  rw [s1] at X2 s2
  generalize hw2 : w1.alloc (.cells #[.slice none 0 0, .slice none 0 0] 40) = w2 at *
  replace X0 := (X0.below B1).below B2
  replace X1 := X1.below B2
  replace B2 := below_then (below_then B0 B1) B2
  have a0 : w2.cell? ⟨w.heap.size, 0, none⟩ = some (.int .i64 (V : Int)) := X0.cell 0 rfl
  have a1 : w2.cell? ⟨w.heap.size, 1, none⟩ = some (.int .i64 (D : Int)) := X0.cell 1 rfl
  have a2 : w2.cell? ⟨w.heap.size, 2, none⟩ = some (.int .i64 (Hd : Int)) := X0.cell 2 rfl
  have a3 : w2.cell? ⟨w.heap.size, 3, none⟩ = some (.int .i64 (H : Int)) := X0.cell 3 rfl
  have a4 : w2.cell? ⟨w.heap.size, 4, none⟩ = some (.int .i64 (L : Int)) := X0.cell 4 rfl
  go_enter Tryd.func17, Tryd.ntmps17
  go_wp2_with (refine wpList_load_row rfl 32 _ rfl (w.heap.size + 1) rfl 32 ws (0, 0) _ X1 Tryd.underlying32 rfl (by rw [siz]; exact Tryd.infoW) ?_)
  refine (CK _ B2).mono ?_
  rintro e w3 ⟨rfl, B3⟩
  replace X0 := X0.below B3
  replace X1 := X1.below B3
  replace X2 := X2.below B3
  have D3 := below_then B2 B3
  clear a0 a1 a2 a3 a4 hw0 hw1 hw2 B0 B1 B2 B3 CK
  have a0 : w3.cell? ⟨w.heap.size, 0, none⟩ = some (.int .i64 (V : Int)) := X0.cell 0 rfl
  have a1 : w3.cell? ⟨w.heap.size, 1, none⟩ = some (.int .i64 (D : Int)) := X0.cell 1 rfl
  have a2 : w3.cell? ⟨w.heap.size, 2, none⟩ = some (.int .i64 (Hd : Int)) := X0.cell 2 rfl
  have a3 : w3.cell? ⟨w.heap.size, 3, none⟩ = some (.int .i64 (H : Int)) := X0.cell 3 rfl
  have a4 : w3.cell? ⟨w.heap.size, 4, none⟩ = some (.int .i64 (L : Int)) := X0.cell 4 rfl
  go_wp2_with fail
  refine (CP _ D3).mono ?_
  rintro e w4 ⟨rfl, B4⟩
  replace X0 := X0.below B4
  replace X1 := X1.below B4
  replace X2 := X2.below B4
  have D4 := below_then D3 B4
  clear a0 a1 a2 a3 a4 B4 D3 CP s0 s1 s2
  have hall : Array.all (#[.slice none 0 0, .slice none 0 0] : Array Value) (fun v => v.oneCell') = true := by simp [Value.oneCell']
  go_wp2_with (refine wpList_store_row rfl 40 _ _ rfl (w.heap.size + 1 + 1) #[.slice none 0 0, .slice none 0 0] rfl rfl 40 _ X2 Tryd.infoCa rfl hall ?_)
  refine bodyPost_ret (results_mid rfl _ _ (w.heap.size + 1 + 1) _ rfl (load_ca (X2.row _) rfl)) rfl ?_
  exact ⟨rfl, below_setRow D4 (by omega) _⟩
set_option maxRecDepth 100000 in
set_option maxHeartbeats 1600000 in
theorem full_ok (V D Hd H L : Nat) (W : Wt) (bs : List Bk) (M : Mdl) (ao : Option Addr) (n ca : Nat) (A : List Int) (w : World) (hG : Good w V D Hd H L W bs M) (hA : IArg w ao n ca A) (hT : Tab w) (hq : promptN V A = 0) :
   Calls Tryd.prog 17 #[.agg (cfgC V D Hd H L), .agg W.cells, .slice ao n ca] w fun e w' => ∃ g gK gV, e = .returned (.tuple #[.slice (some ⟨g, 0, none⟩) V V, .agg #[.slice (some ⟨gK, 0, none⟩) L L, .slice (some ⟨gV, 0, none⟩) L L], .int .i64 0]) ∧ Fresh w' w.heap.size g V V (fullX M V D H Hd L A) ∧ New w.heap.size w' (fun w => CubeAt w (some ⟨gK, 0, none⟩) L (fullK M D H Hd L A)) ∧ New w.heap.size w' (fun w => CubeAt w (some ⟨gV, 0, none⟩) L (fullV M D H Hd L A)) ∧ Below w.heap.size w w' := by
  obtain ⟨q1, q2, q3, q4, q5, q6, q7, q8, q9, q10⟩ := shape_ok hG.shape
  have CK := fun (wv : World) (hb : Below w.heap.size w wv) => check_good (hG.below hb)
  have CP := fun (wv : World) (hb : Below w.heap.size w wv) => prompt_any V D Hd H L ao n ca A wv (hA.below hb)
  have siz : W.cells.size = 8 := rfl
  obtain ⟨p1, p2, p3⟩ := prompt_ok hq
  rw [hq] at CP
  have hl := hA.row.len
  have HT : Hid (∀ wv, Below w.heap.size w wv → Tab wv) := fun wv hb => hT.next hb
  have HG : Hid (∀ wv, Below w.heap.size w wv → Good wv V D Hd H L W bs M) := fun wv hb => hG.below hb
  have HA : Hid (∀ wv, Below w.heap.size w wv → IRowAt wv ao n A) := fun wv hb => hA.row.below hb
  have HK : Hid (∀ k, k < A.length → 0 ≤ el A k ∧ el A k < V) := fun k hk => by have := all_el hk p3; unfold tokB at this; simpa using this
  have HLN : Hid (A.length = n) := hl
  have CB := fun (wv : World) (hb : Below w.heap.size w wv) (tok at' : Nat) (h1 : tok < V) (h2 : at' ≤ 4096) => begin_any V D H W bs M tok at' wv (hG.wt.below hb) h1 h2
  have CL := fun (wv : World) (hb : Below w.heap.size w wv) (xo : Option Addr) (cx : Nat) (Xr : List Int) (hX : RowAt wv xo D Xr) => likes_any V D H W bs M xo cx Xr wv (hG.wt.below hb) hX (by omega) (by omega)
  have blen := hG.wt.b.len
  have hbl := hG.len
  have hmod := shape_mod hG.shape
  clear hT hG hA
  have LF : Hid ((fullK M D H Hd L A).length = L ∧ (fullV M D H Hd L A).length = L) := ⟨by unfold fullK; simp, by unfold fullV; simp⟩
  obtain ⟨we, ⟨ba, bn, bz⟩, wl, wo⟩ := W
  simp only at blen
  have hbn : L = bn := by rw [← hbl, blen]
  subst hbn
  have wb : (Wt.cells ⟨we, ⟨ba, L, bz⟩, wl, wo⟩)[3]? = some (.slice ba L bz) := rfl
  generalize hws : Wt.cells ⟨we, ⟨ba, L, bz⟩, wl, wo⟩ = ws at *
  unfold cfgC at CK CP ⊢
  have X0 := blk_new w 23 #[.int .i64 (V : Int), .int .i64 (D : Int), .int .i64 (Hd : Int), .int .i64 (H : Int), .int .i64 (L : Int)]
  have B0 : Below w.heap.size w (w.alloc (.cells #[.int .i64 (V : Int), .int .i64 (D : Int), .int .i64 (Hd : Int), .int .i64 (H : Int), .int .i64 (L : Int)] 23)) := (Below.refl _ _).alloc (Nat.le_refl _) _
  have s0 : (w.alloc (.cells #[.int .i64 (V : Int), .int .i64 (D : Int), .int .i64 (Hd : Int), .int .i64 (H : Int), .int .i64 (L : Int)] 23)).heap.size = w.heap.size + 1 := by simp
  generalize hw0 : w.alloc (.cells #[.int .i64 (V : Int), .int .i64 (D : Int), .int .i64 (Hd : Int), .int .i64 (H : Int), .int .i64 (L : Int)] 23) = w0 at *
  have X1 := blk_new w0 32 ws
  have B1 : Below w0.heap.size w0 (w0.alloc (.cells ws 32)) := (Below.refl _ _).alloc (Nat.le_refl _) _
  have s1 : (w0.alloc (.cells ws 32)).heap.size = w0.heap.size + 1 := by simp
  rw [s0] at X1 s1
  generalize hw1 : w0.alloc (.cells ws 32) = w1 at *
  have X2 := blk_new w1 40 #[.slice none 0 0, .slice none 0 0]
  have B2 : Below w1.heap.size w1 (w1.alloc (.cells #[.slice none 0 0, .slice none 0 0] 40)) := (Below.refl _ _).alloc (Nat.le_refl _) _
  have s2 : (w1.alloc (.cells #[.slice none 0 0, .slice none 0 0] 40)).heap.size = w1.heap.size + 1 := by simp
  rw [s1] at X2 s2
  generalize hw2 : w1.alloc (.cells #[.slice none 0 0, .slice none 0 0] 40) = w2 at *
  replace X0 := (X0.below B1).below B2
  replace X1 := X1.below B2
  replace B2 := below_then (below_then B0 B1) B2
  have a0 : w2.cell? ⟨w.heap.size, 0, none⟩ = some (.int .i64 (V : Int)) := X0.cell 0 rfl
  have a1 : w2.cell? ⟨w.heap.size, 1, none⟩ = some (.int .i64 (D : Int)) := X0.cell 1 rfl
  have a2 : w2.cell? ⟨w.heap.size, 2, none⟩ = some (.int .i64 (Hd : Int)) := X0.cell 2 rfl
  have a3 : w2.cell? ⟨w.heap.size, 3, none⟩ = some (.int .i64 (H : Int)) := X0.cell 3 rfl
  have a4 : w2.cell? ⟨w.heap.size, 4, none⟩ = some (.int .i64 (L : Int)) := X0.cell 4 rfl
  go_enter Tryd.func17, Tryd.ntmps17
  go_wp2_with (refine wpList_load_row rfl 32 _ rfl (w.heap.size + 1) rfl 32 ws (0, 0) _ X1 Tryd.underlying32 rfl (by rw [siz]; exact Tryd.infoW) ?_)
  refine (CK _ B2).mono ?_
  rintro e w3 ⟨rfl, B3⟩
  replace X0 := X0.below B3
  replace X1 := X1.below B3
  replace X2 := X2.below B3
  have D3 := below_then B2 B3
  clear a0 a1 a2 a3 a4 hw0 hw1 hw2 B0 B1 B2 B3 CK
  have a0 : w3.cell? ⟨w.heap.size, 0, none⟩ = some (.int .i64 (V : Int)) := X0.cell 0 rfl
  have a1 : w3.cell? ⟨w.heap.size, 1, none⟩ = some (.int .i64 (D : Int)) := X0.cell 1 rfl
  have a2 : w3.cell? ⟨w.heap.size, 2, none⟩ = some (.int .i64 (Hd : Int)) := X0.cell 2 rfl
  have a3 : w3.cell? ⟨w.heap.size, 3, none⟩ = some (.int .i64 (H : Int)) := X0.cell 3 rfl
  have a4 : w3.cell? ⟨w.heap.size, 4, none⟩ = some (.int .i64 (L : Int)) := X0.cell 4 rfl
  go_wp2_with fail
  refine (CP _ D3).mono ?_
  rintro e w4 ⟨rfl, B4⟩
  replace X0 := X0.below B4
  replace X1 := X1.below B4
  replace X2 := X2.below B4
  have D4 := below_then D3 B4
  clear a0 a1 a2 a3 a4 B4 D3 CP s0 s1 s2
  have hmk := run_make_row' (P := Tryd.prog) 51 27 (.slice none 0 0) 24 Tryd.underlying51 Tryd.infoRow rfl .i64 .i64 n (by omega) (by omega)
  have hmk2 := run_make_row' (P := Tryd.prog) 38 51 (.slice none 0 0) 24 Tryd.underlying38 Tryd.infoList rfl .i64 .i64 L (by omega) (by omega)
  have F0 := fillTo_made w4 n (begL M.E D A)
  have B5 : Below w4.heap.size w4 (w4.alloc (.cells (madeCells #[.slice none 0 0] n) 27)) := (Below.refl _ _).alloc (Nat.le_refl _) _
  generalize hw5 : w4.alloc (.cells (madeCells #[.slice none 0 0] n) 27) = w5 at *
  have z4 := X2.lt
  replace X0 := X0.below B5
  replace X1 := X1.below B5
  replace X2 := X2.below B5
  have D5 := below_then D4 B5
  go_wp2_with fail
  clear hw5
  go_loopg [36] n (fun r i wr => ∃ k : Nat, k ≤ n ∧ r = n - k ∧ i = .int .i64 k ∧ FillTo wr w4.heap.size n k (begL M.E D A) ∧ Blk wr w.heap.size 23 #[.int .i64 (V : Int), .int .i64 (D : Int), .int .i64 (Hd : Int), .int .i64 (H : Int), .int .i64 (L : Int)] ∧ Blk wr (w.heap.size + 1) 32 ws ∧ Blk wr (w.heap.size + 2) 40 #[.slice none 0 0, .slice none 0 0] ∧ Below w.heap.size w wr)
  case atStart => exact ⟨0, by omega, by omega, rfl, F0, X0, X1, X2, D5⟩
  case round =>
    obtain ⟨k, hk, rfl, rfl, F1, Y0, Y1, Y2, KP⟩ := hrel
    clear F0 X0 X1 X2 D5 B5
    by_cases hlt : k < n
    · obtain ⟨b, o, rfl, hc⟩ := (HA.out wr KP).cells (by omega)
      have ck := hc k hlt
      clear hc
      obtain ⟨t1, t2⟩ := HK.out k (by omega)
      have HBG : Hid (rowOf (begL M.E D A) k = begR M.E D (el A k).toNat k) := begL_at M.E D (by omega)
      obtain ⟨tk, htk⟩ : ∃ tk : Nat, el A k = tk := ⟨(el A k).toNat, by omega⟩
      rw [htk] at ck t2 HBG
      rw [Int.toNat_natCast] at HBG
      clear htk t1
      have CC := CB wr KP tk k (by omega) (by omega)
      have X1 := Y1
      go_wp2_with (refine wpList_load_row rfl 32 _ rfl (w.heap.size + 1) rfl 32 ws (0, 0) _ X1 Tryd.underlying32 rfl (by rw [siz]; exact Tryd.infoW) ?_)
      refine CC.mono ?_
      rintro e w7 ⟨g, cap, rfl, F7, B7⟩
      have sF := F1.lt
      have F2 := F1.below B7
      have N7 : New (w4.heap.size + 1) w7 fun w => Arg w (some ⟨g, 0, none⟩) D cap (rowOf (begL M.E D A) k) := by
        rw [HBG.out]
        exact (F7.new.mono (by omega)).imp fun _ h => h.arg
      have F3 := F2.step hlt N7
      have ff := F2.frozen k
      obtain ⟨v, hv⟩ := F2.cell hlt
      have KQ := below_then KP B7
      replace Y0 := Y0.below B7
      replace Y1 := Y1.below B7
      replace Y2 := Y2.below B7
      clear N7 F1 X1 CC ck
      go_wp2
      go_roundg (n - (k + 1))
      case measure => omega
      case rel => exact ⟨k + 1, by omega, rfl, by go_num, F3, Y0.other (by show _ ≠ w4.heap.size; omega) _, Y1.other (by show _ ≠ w4.heap.size; omega) _, Y2.other (by show _ ≠ w4.heap.size; omega) _, KQ.setCell (p := ⟨w4.heap.size, k, none⟩) (by show w.heap.size ≤ w4.heap.size; omega) _⟩
    · obtain rfl : k = n := by omega
      obtain ⟨vs0, N0⟩ := F1.grid (by unfold begL; simp [HLN.out]) (by omega) (Nat.le_refl w4.heap.size)
      have G0 : Hangs (fun b => b < wr.heap.size) wr (fun w => GridAt w (some ⟨w4.heap.size, 0, none⟩) k (rowsL M D H Hd A 0)) := (Hangs.mono N0 fun b hb _ => hb).imp fun _ h => h.grid
      have y2 := Y2.lt
      clear F1 N0 CB hmk
      have XX0 := Y0
      go_upto_region 13 with fail
      go_cut [14] from 49 (fun s14 wc => ∃ gC gK gV, s14 = .pointer (some ⟨gC, 0, none⟩) ∧ GridAt wc (some ⟨w4.heap.size, 0, none⟩) k (rowsL M D H Hd A 0) ∧ FI w wc #[.int .i64 (V : Int), .int .i64 (D : Int), .int .i64 (Hd : Int), .int .i64 (H : Int), .int .i64 (L : Int)] ws gC gK gV L 0 (fullK M D H Hd L A) (fullV M D H Hd L A))
      case first =>
        clear XX0
        replace Y0 := Y0.below ((Below.refl _ _).drew)
        replace Y1 := Y1.below ((Below.refl _ _).drew)
        replace Y2 := Y2.below ((Below.refl _ _).drew)
        replace KP := KP.drew
        replace G0 := G0.below ((Below.refl _ _).drew)
        have HKV := fun (wv : World) (p : Nat → Prop) => kv_made wv L p (fullK M D H Hd L A) [] rfl
        have HVV := fun (wv : World) (p : Nat → Prop) => kv_made wv L p (fullV M D H Hd L A) [] rfl
        refine wp_region_held_drew (S := fun w' => Blk w' (w.heap.size + 1) 32 ws) (by kernel_rfl) (Y1) (fun hHeld => ?_)
        have zA : wr.heap.size ≤ wr.drew.heap.size := Nat.le_refl _
        generalize hA : wr.drew = wA at *
        clear hA
        refine wpAnyH_take (i := 0) (v := (.pointer (some ⟨w.heap.size + 1, 3, none⟩))) rfl (by kernel_rfl) (by kernel_rfl) (by kernel_rfl) (fun _ _ _ h => h) (Or.inl ⟨by rfl, ?_⟩) (by assumption) ?_
        · intro w' hSw
          go_simp
        simp only [List.getElem_toArray, List.getElem_cons_zero, Act.put, List.setIfInBounds_toArray, List.set_cons_zero, List.set_cons_succ]
        refine wpAnyH_take (i := 1) (v := (.slice ba L bz)) rfl (by kernel_rfl) (by kernel_rfl) (by kernel_rfl) (fun _ _ _ h => h) (Or.inl ⟨by rfl, ?_⟩) (by assumption) ?_
        · intro w' hSw
          have c3 : w'.cell? ⟨w.heap.size + 1, 3, none⟩ = some (.slice ba L bz) := hSw.cell 3 wb
          go_simp
        simp only [List.getElem_toArray, List.getElem_cons_succ, List.getElem_cons_zero, Act.put, List.setIfInBounds_toArray, List.set_cons_zero, List.set_cons_succ]
        refine wpAnyH_take (i := 2) (v := (.int .i64 (L : Int))) rfl (by kernel_rfl) (by kernel_rfl) (by kernel_rfl) (fun _ _ _ h => h) (Or.inl ⟨by rfl, ?_⟩) (by assumption) ?_
        · intro w' hSw
          go_simp
        simp only [List.getElem_toArray, List.getElem_cons_succ, List.getElem_cons_zero, Act.put, List.setIfInBounds_toArray, List.set_cons_zero, List.set_cons_succ]
        refine wpAnyH_take (i := 4) (v := (.pointer (some ⟨w.heap.size + 1, 3, none⟩))) rfl (by kernel_rfl) (by kernel_rfl) (by kernel_rfl) (fun _ _ _ h => h) (Or.inl ⟨by rfl, ?_⟩) (by assumption) ?_
        · intro w' hSw
          go_simp
        simp only [List.getElem_toArray, List.getElem_cons_succ, List.getElem_cons_zero, Act.put, List.setIfInBounds_toArray, List.set_cons_zero, List.set_cons_succ]
        refine wpAnyH_take (i := 5) (v := (.slice ba L bz)) rfl (by kernel_rfl) (by kernel_rfl) (by kernel_rfl) (fun _ _ _ h => h) (Or.inl ⟨by rfl, ?_⟩) (by assumption) ?_
        · intro w' hSw
          have c3 : w'.cell? ⟨w.heap.size + 1, 3, none⟩ = some (.slice ba L bz) := hSw.cell 3 wb
          go_simp
        simp only [List.getElem_toArray, List.getElem_cons_succ, List.getElem_cons_zero, Act.put, List.setIfInBounds_toArray, List.set_cons_zero, List.set_cons_succ]
        refine wpAnyH_take (i := 6) (v := (.int .i64 (L : Int))) rfl (by kernel_rfl) (by kernel_rfl) (by kernel_rfl) (fun _ _ _ h => h) (Or.inl ⟨by rfl, ?_⟩) (by assumption) ?_
        · intro w' hSw
          go_simp
        simp only [List.getElem_toArray, List.getElem_cons_succ, List.getElem_cons_zero, Act.put, List.setIfInBounds_toArray, List.set_cons_zero, List.set_cons_succ]
        refine wpAnyH_ready (rs := [3, 7, 9]) (by kernel_rfl) (by simp) ?_
        refine AllReadyH.cons rfl (fun Kc hKc => ?_) (AllReadyH.cons rfl (fun Kc hKc => ?_) (AllReadyH.cons rfl (fun Kc hKc => ?_) AllReadyH.nil))
        · simp only [List.getElem_toArray, List.getElem_cons_succ, List.getElem_cons_zero]
          rw [if_pos (by rfl)]
          go_wp2_with fail
          have NK := HKV wA
          have EM1 : Below wA.heap.size wA (wA.alloc (.cells (madeCells #[.slice none 0 0] L) 51)) := (Below.refl _ _).alloc (Nat.le_refl _) _
          have zwM1 : wA.heap.size < (wA.alloc (.cells (madeCells #[.slice none 0 0] L) 51)).heap.size := by simp
          generalize hn1 : wA.alloc (.cells (madeCells #[.slice none 0 0] L) 51) = wM1 at *
          replace Y0 := Y0.below EM1
          replace Y1 := Y1.below EM1
          replace Y2 := Y2.below EM1
          replace KP := below_then KP EM1
          replace G0 := G0.below EM1
          refine hKc.out _ _ Y1 (fun hHeld => ?_)
          clear hKc Kc hn1
          refine wpAnyH_ready (rs := [7, 9]) (by kernel_rfl) (by simp) ?_
          refine AllReadyH.cons rfl (fun Kc hKc => ?_) (AllReadyH.cons rfl (fun Kc hKc => ?_) AllReadyH.nil)
          · simp only [List.getElem_toArray, List.getElem_cons_succ, List.getElem_cons_zero]
            rw [if_pos (by rfl)]
            go_wp2_with fail
            have NV := HVV wM1
            have EM2 : Below wM1.heap.size wM1 (wM1.alloc (.cells (madeCells #[.slice none 0 0] L) 51)) := (Below.refl _ _).alloc (Nat.le_refl _) _
            have zwM2 : wM1.heap.size < (wM1.alloc (.cells (madeCells #[.slice none 0 0] L) 51)).heap.size := by simp
            generalize hn2 : wM1.alloc (.cells (madeCells #[.slice none 0 0] L) 51) = wM2 at *
            replace Y0 := Y0.below EM2
            replace Y1 := Y1.below EM2
            replace Y2 := Y2.below EM2
            replace KP := below_then KP EM2
            replace G0 := G0.below EM2
            replace NK := fun p => (NK p).below EM2
            refine hKc.out _ _ Y1 (fun hHeld => ?_)
            clear hKc Kc hn2
            refine wpAnyH_take (i := 8) (v := (.agg #[.slice (some ⟨wA.heap.size, 0, none⟩) L L, .slice (some ⟨wM1.heap.size, 0, none⟩) L L])) rfl (by kernel_rfl) (by kernel_rfl) (by kernel_rfl) (fun _ _ _ h => h) (Or.inl ⟨by rfl, ?_⟩) (by assumption) ?_
            · intro w' hSw
              go_simp
            simp only [List.getElem_toArray, List.getElem_cons_succ, List.getElem_cons_zero, Act.put, List.setIfInBounds_toArray, List.set_cons_zero, List.set_cons_succ]
            refine wpAnyH_ready (rs := [9]) (by kernel_rfl) (by simp) ?_
            refine AllReadyH.cons rfl (fun Kc hKc => ?_) AllReadyH.nil
            simp only [List.getElem_toArray, List.getElem_cons_succ, List.getElem_cons_zero]
            rw [if_pos (by rfl)]
            go_wp2_with fail
            have XC := blk_new wM2 40 #[.slice none 0 0, .slice none 0 0]
            have EM3 : Below wM2.heap.size wM2 (wM2.alloc (.cells #[.slice none 0 0, .slice none 0 0] 40)) := (Below.refl _ _).alloc (Nat.le_refl _) _
            have zwM3 : wM2.heap.size < (wM2.alloc (.cells #[.slice none 0 0, .slice none 0 0] 40)).heap.size := by simp
            generalize hn3 : wM2.alloc (.cells #[.slice none 0 0, .slice none 0 0] 40) = wM3 at *
            replace Y0 := Y0.below EM3
            replace Y1 := Y1.below EM3
            replace Y2 := Y2.below EM3
            replace KP := below_then KP EM3
            replace G0 := G0.below EM3
            replace NK := fun p => (NK p).below EM3
            replace NV := fun p => (NV p).below EM3
            refine hKc.out _ _ Y1 (fun hHeld => ?_)
            clear hKc Kc hn3
            refine wpAnyH_ready (rs := [10]) (by kernel_rfl) (by simp) ?_
            refine AllReadyH.cons rfl (fun Kc hKc => ?_) AllReadyH.nil
            simp only [List.getElem_toArray, List.getElem_cons_succ, List.getElem_cons_zero]
            rw [if_pos (by rfl)]
            have hall : Array.all (#[.slice (some ⟨wA.heap.size, 0, none⟩) L L, .slice (some ⟨wM1.heap.size, 0, none⟩) L L] : Array Value) (fun v => v.oneCell') = true := by simp [Value.oneCell']
            refine wp_store_row 40 _ _ rfl (wM2.heap.size) #[.slice (some ⟨wA.heap.size, 0, none⟩) L L, .slice (some ⟨wM1.heap.size, 0, none⟩) L L] rfl rfl 40 _ XC Tryd.infoCa rfl hall ?_
            have so : ∀ b, b ≠ wM2.heap.size → (wM3.setRow (wM2.heap.size) #[.slice (some ⟨wA.heap.size, 0, none⟩) L L, .slice (some ⟨wM1.heap.size, 0, none⟩) L L]).heap[b]? = wM3.heap[b]? := fun b hb => setRow_other _ _ _ _ hb
            have y0 := Y0.lt
            refine hKc.out _ _ (Blk.of_block Y1 (so _ (by omega))) (fun hHeld => ?_)
            clear hKc Kc
            refine wpAnyH_done (by kernel_rfl) ?_ _
            go_wp2_with fail
            go_meet
            case rel =>
              refine ⟨wM2.heap.size, wA.heap.size, wM1.heap.size, rfl, ?_, ⟨Blk.of_block Y0 (so _ (by omega)), Blk.of_block Y1 (so _ (by omega)), Blk.of_block Y2 (so _ (by omega)), XC.row _, ?_, ?_, by omega, below_setRow KP (by omega) _⟩⟩
              · exact (G0.row (g := wM2.heap.size) (by show ¬ (_ < _); omega) _).now
              · exact (NK _).put (by omega) (fun h => h.2.2.2 rfl) _
              · exact (NV _).put (by omega) (fun h => h.2.2.2 rfl) _
          · simp only [List.getElem_toArray, List.getElem_cons_succ, List.getElem_cons_zero]
            rw [if_pos (by rfl)]
            go_wp2_with fail
            have XC := blk_new wM1 40 #[.slice none 0 0, .slice none 0 0]
            have EM2 : Below wM1.heap.size wM1 (wM1.alloc (.cells #[.slice none 0 0, .slice none 0 0] 40)) := (Below.refl _ _).alloc (Nat.le_refl _) _
            have zwM2 : wM1.heap.size < (wM1.alloc (.cells #[.slice none 0 0, .slice none 0 0] 40)).heap.size := by simp
            generalize hn2 : wM1.alloc (.cells #[.slice none 0 0, .slice none 0 0] 40) = wM2 at *
            replace Y0 := Y0.below EM2
            replace Y1 := Y1.below EM2
            replace Y2 := Y2.below EM2
            replace KP := below_then KP EM2
            replace G0 := G0.below EM2
            replace NK := fun p => (NK p).below EM2
            refine hKc.out _ _ Y1 (fun hHeld => ?_)
            clear hKc Kc hn2
            refine wpAnyH_ready (rs := [7]) (by kernel_rfl) (by simp) ?_
            refine AllReadyH.cons rfl (fun Kc hKc => ?_) AllReadyH.nil
            simp only [List.getElem_toArray, List.getElem_cons_succ, List.getElem_cons_zero]
            rw [if_pos (by rfl)]
            go_wp2_with fail
            have NV := HVV wM2
            have EM3 : Below wM2.heap.size wM2 (wM2.alloc (.cells (madeCells #[.slice none 0 0] L) 51)) := (Below.refl _ _).alloc (Nat.le_refl _) _
            have zwM3 : wM2.heap.size < (wM2.alloc (.cells (madeCells #[.slice none 0 0] L) 51)).heap.size := by simp
            generalize hn3 : wM2.alloc (.cells (madeCells #[.slice none 0 0] L) 51) = wM3 at *
            replace Y0 := Y0.below EM3
            replace Y1 := Y1.below EM3
            replace Y2 := Y2.below EM3
            replace KP := below_then KP EM3
            replace G0 := G0.below EM3
            replace NK := fun p => (NK p).below EM3
            replace XC := XC.below EM3
            refine hKc.out _ _ Y1 (fun hHeld => ?_)
            clear hKc Kc hn3
            refine wpAnyH_take (i := 8) (v := (.agg #[.slice (some ⟨wA.heap.size, 0, none⟩) L L, .slice (some ⟨wM2.heap.size, 0, none⟩) L L])) rfl (by kernel_rfl) (by kernel_rfl) (by kernel_rfl) (fun _ _ _ h => h) (Or.inl ⟨by rfl, ?_⟩) (by assumption) ?_
            · intro w' hSw
              go_simp
            simp only [List.getElem_toArray, List.getElem_cons_succ, List.getElem_cons_zero, Act.put, List.setIfInBounds_toArray, List.set_cons_zero, List.set_cons_succ]
            refine wpAnyH_ready (rs := [10]) (by kernel_rfl) (by simp) ?_
            refine AllReadyH.cons rfl (fun Kc hKc => ?_) AllReadyH.nil
            simp only [List.getElem_toArray, List.getElem_cons_succ, List.getElem_cons_zero]
            rw [if_pos (by rfl)]
            have hall : Array.all (#[.slice (some ⟨wA.heap.size, 0, none⟩) L L, .slice (some ⟨wM2.heap.size, 0, none⟩) L L] : Array Value) (fun v => v.oneCell') = true := by simp [Value.oneCell']
            refine wp_store_row 40 _ _ rfl (wM1.heap.size) #[.slice (some ⟨wA.heap.size, 0, none⟩) L L, .slice (some ⟨wM2.heap.size, 0, none⟩) L L] rfl rfl 40 _ XC Tryd.infoCa rfl hall ?_
            have so : ∀ b, b ≠ wM1.heap.size → (wM3.setRow (wM1.heap.size) #[.slice (some ⟨wA.heap.size, 0, none⟩) L L, .slice (some ⟨wM2.heap.size, 0, none⟩) L L]).heap[b]? = wM3.heap[b]? := fun b hb => setRow_other _ _ _ _ hb
            have y0 := Y0.lt
            refine hKc.out _ _ (Blk.of_block Y1 (so _ (by omega))) (fun hHeld => ?_)
            clear hKc Kc
            refine wpAnyH_done (by kernel_rfl) ?_ _
            go_wp2_with fail
            go_meet
            case rel =>
              refine ⟨wM1.heap.size, wA.heap.size, wM2.heap.size, rfl, ?_, ⟨Blk.of_block Y0 (so _ (by omega)), Blk.of_block Y1 (so _ (by omega)), Blk.of_block Y2 (so _ (by omega)), XC.row _, ?_, ?_, by omega, below_setRow KP (by omega) _⟩⟩
              · exact (G0.row (g := wM1.heap.size) (by show ¬ (_ < _); omega) _).now
              · exact (NK _).put (by omega) (fun h => h.2.2.2 rfl) _
              · exact (NV _).put (by omega) (fun h => h.2.2.2 rfl) _
        · simp only [List.getElem_toArray, List.getElem_cons_succ, List.getElem_cons_zero]
          rw [if_pos (by rfl)]
          go_wp2_with fail
          have NV := HVV wA
          have EM1 : Below wA.heap.size wA (wA.alloc (.cells (madeCells #[.slice none 0 0] L) 51)) := (Below.refl _ _).alloc (Nat.le_refl _) _
          have zwM1 : wA.heap.size < (wA.alloc (.cells (madeCells #[.slice none 0 0] L) 51)).heap.size := by simp
          generalize hn1 : wA.alloc (.cells (madeCells #[.slice none 0 0] L) 51) = wM1 at *
          replace Y0 := Y0.below EM1
          replace Y1 := Y1.below EM1
          replace Y2 := Y2.below EM1
          replace KP := below_then KP EM1
          replace G0 := G0.below EM1
          refine hKc.out _ _ Y1 (fun hHeld => ?_)
          clear hKc Kc hn1
          refine wpAnyH_ready (rs := [3, 9]) (by kernel_rfl) (by simp) ?_
          refine AllReadyH.cons rfl (fun Kc hKc => ?_) (AllReadyH.cons rfl (fun Kc hKc => ?_) AllReadyH.nil)
          · simp only [List.getElem_toArray, List.getElem_cons_succ, List.getElem_cons_zero]
            rw [if_pos (by rfl)]
            go_wp2_with fail
            have NK := HKV wM1
            have EM2 : Below wM1.heap.size wM1 (wM1.alloc (.cells (madeCells #[.slice none 0 0] L) 51)) := (Below.refl _ _).alloc (Nat.le_refl _) _
            have zwM2 : wM1.heap.size < (wM1.alloc (.cells (madeCells #[.slice none 0 0] L) 51)).heap.size := by simp
            generalize hn2 : wM1.alloc (.cells (madeCells #[.slice none 0 0] L) 51) = wM2 at *
            replace Y0 := Y0.below EM2
            replace Y1 := Y1.below EM2
            replace Y2 := Y2.below EM2
            replace KP := below_then KP EM2
            replace G0 := G0.below EM2
            replace NV := fun p => (NV p).below EM2
            refine hKc.out _ _ Y1 (fun hHeld => ?_)
            clear hKc Kc hn2
            refine wpAnyH_take (i := 8) (v := (.agg #[.slice (some ⟨wM1.heap.size, 0, none⟩) L L, .slice (some ⟨wA.heap.size, 0, none⟩) L L])) rfl (by kernel_rfl) (by kernel_rfl) (by kernel_rfl) (fun _ _ _ h => h) (Or.inl ⟨by rfl, ?_⟩) (by assumption) ?_
            · intro w' hSw
              go_simp
            simp only [List.getElem_toArray, List.getElem_cons_succ, List.getElem_cons_zero, Act.put, List.setIfInBounds_toArray, List.set_cons_zero, List.set_cons_succ]
            refine wpAnyH_ready (rs := [9]) (by kernel_rfl) (by simp) ?_
            refine AllReadyH.cons rfl (fun Kc hKc => ?_) AllReadyH.nil
            simp only [List.getElem_toArray, List.getElem_cons_succ, List.getElem_cons_zero]
            rw [if_pos (by rfl)]
            go_wp2_with fail
            have XC := blk_new wM2 40 #[.slice none 0 0, .slice none 0 0]
            have EM3 : Below wM2.heap.size wM2 (wM2.alloc (.cells #[.slice none 0 0, .slice none 0 0] 40)) := (Below.refl _ _).alloc (Nat.le_refl _) _
            have zwM3 : wM2.heap.size < (wM2.alloc (.cells #[.slice none 0 0, .slice none 0 0] 40)).heap.size := by simp
            generalize hn3 : wM2.alloc (.cells #[.slice none 0 0, .slice none 0 0] 40) = wM3 at *
            replace Y0 := Y0.below EM3
            replace Y1 := Y1.below EM3
            replace Y2 := Y2.below EM3
            replace KP := below_then KP EM3
            replace G0 := G0.below EM3
            replace NV := fun p => (NV p).below EM3
            replace NK := fun p => (NK p).below EM3
            refine hKc.out _ _ Y1 (fun hHeld => ?_)
            clear hKc Kc hn3
            refine wpAnyH_ready (rs := [10]) (by kernel_rfl) (by simp) ?_
            refine AllReadyH.cons rfl (fun Kc hKc => ?_) AllReadyH.nil
            simp only [List.getElem_toArray, List.getElem_cons_succ, List.getElem_cons_zero]
            rw [if_pos (by rfl)]
            have hall : Array.all (#[.slice (some ⟨wM1.heap.size, 0, none⟩) L L, .slice (some ⟨wA.heap.size, 0, none⟩) L L] : Array Value) (fun v => v.oneCell') = true := by simp [Value.oneCell']
            refine wp_store_row 40 _ _ rfl (wM2.heap.size) #[.slice (some ⟨wM1.heap.size, 0, none⟩) L L, .slice (some ⟨wA.heap.size, 0, none⟩) L L] rfl rfl 40 _ XC Tryd.infoCa rfl hall ?_
            have so : ∀ b, b ≠ wM2.heap.size → (wM3.setRow (wM2.heap.size) #[.slice (some ⟨wM1.heap.size, 0, none⟩) L L, .slice (some ⟨wA.heap.size, 0, none⟩) L L]).heap[b]? = wM3.heap[b]? := fun b hb => setRow_other _ _ _ _ hb
            have y0 := Y0.lt
            refine hKc.out _ _ (Blk.of_block Y1 (so _ (by omega))) (fun hHeld => ?_)
            clear hKc Kc
            refine wpAnyH_done (by kernel_rfl) ?_ _
            go_wp2_with fail
            go_meet
            case rel =>
              refine ⟨wM2.heap.size, wM1.heap.size, wA.heap.size, rfl, ?_, ⟨Blk.of_block Y0 (so _ (by omega)), Blk.of_block Y1 (so _ (by omega)), Blk.of_block Y2 (so _ (by omega)), XC.row _, ?_, ?_, by omega, below_setRow KP (by omega) _⟩⟩
              · exact (G0.row (g := wM2.heap.size) (by show ¬ (_ < _); omega) _).now
              · exact (NK _).put (by omega) (fun h => h.2.2.2 rfl) _
              · exact (NV _).put (by omega) (fun h => h.2.2.2 rfl) _
          · simp only [List.getElem_toArray, List.getElem_cons_succ, List.getElem_cons_zero]
            rw [if_pos (by rfl)]
            go_wp2_with fail
            have XC := blk_new wM1 40 #[.slice none 0 0, .slice none 0 0]
            have EM2 : Below wM1.heap.size wM1 (wM1.alloc (.cells #[.slice none 0 0, .slice none 0 0] 40)) := (Below.refl _ _).alloc (Nat.le_refl _) _
            have zwM2 : wM1.heap.size < (wM1.alloc (.cells #[.slice none 0 0, .slice none 0 0] 40)).heap.size := by simp
            generalize hn2 : wM1.alloc (.cells #[.slice none 0 0, .slice none 0 0] 40) = wM2 at *
            replace Y0 := Y0.below EM2
            replace Y1 := Y1.below EM2
            replace Y2 := Y2.below EM2
            replace KP := below_then KP EM2
            replace G0 := G0.below EM2
            replace NV := fun p => (NV p).below EM2
            refine hKc.out _ _ Y1 (fun hHeld => ?_)
            clear hKc Kc hn2
            refine wpAnyH_ready (rs := [3]) (by kernel_rfl) (by simp) ?_
            refine AllReadyH.cons rfl (fun Kc hKc => ?_) AllReadyH.nil
            simp only [List.getElem_toArray, List.getElem_cons_succ, List.getElem_cons_zero]
            rw [if_pos (by rfl)]
            go_wp2_with fail
            have NK := HKV wM2
            have EM3 : Below wM2.heap.size wM2 (wM2.alloc (.cells (madeCells #[.slice none 0 0] L) 51)) := (Below.refl _ _).alloc (Nat.le_refl _) _
            have zwM3 : wM2.heap.size < (wM2.alloc (.cells (madeCells #[.slice none 0 0] L) 51)).heap.size := by simp
            generalize hn3 : wM2.alloc (.cells (madeCells #[.slice none 0 0] L) 51) = wM3 at *
            replace Y0 := Y0.below EM3
            replace Y1 := Y1.below EM3
            replace Y2 := Y2.below EM3
            replace KP := below_then KP EM3
            replace G0 := G0.below EM3
            replace NV := fun p => (NV p).below EM3
            replace XC := XC.below EM3
            refine hKc.out _ _ Y1 (fun hHeld => ?_)
            clear hKc Kc hn3
            refine wpAnyH_take (i := 8) (v := (.agg #[.slice (some ⟨wM2.heap.size, 0, none⟩) L L, .slice (some ⟨wA.heap.size, 0, none⟩) L L])) rfl (by kernel_rfl) (by kernel_rfl) (by kernel_rfl) (fun _ _ _ h => h) (Or.inl ⟨by rfl, ?_⟩) (by assumption) ?_
            · intro w' hSw
              go_simp
            simp only [List.getElem_toArray, List.getElem_cons_succ, List.getElem_cons_zero, Act.put, List.setIfInBounds_toArray, List.set_cons_zero, List.set_cons_succ]
            refine wpAnyH_ready (rs := [10]) (by kernel_rfl) (by simp) ?_
            refine AllReadyH.cons rfl (fun Kc hKc => ?_) AllReadyH.nil
            simp only [List.getElem_toArray, List.getElem_cons_succ, List.getElem_cons_zero]
            rw [if_pos (by rfl)]
            have hall : Array.all (#[.slice (some ⟨wM2.heap.size, 0, none⟩) L L, .slice (some ⟨wA.heap.size, 0, none⟩) L L] : Array Value) (fun v => v.oneCell') = true := by simp [Value.oneCell']
            refine wp_store_row 40 _ _ rfl (wM1.heap.size) #[.slice (some ⟨wM2.heap.size, 0, none⟩) L L, .slice (some ⟨wA.heap.size, 0, none⟩) L L] rfl rfl 40 _ XC Tryd.infoCa rfl hall ?_
            have so : ∀ b, b ≠ wM1.heap.size → (wM3.setRow (wM1.heap.size) #[.slice (some ⟨wM2.heap.size, 0, none⟩) L L, .slice (some ⟨wA.heap.size, 0, none⟩) L L]).heap[b]? = wM3.heap[b]? := fun b hb => setRow_other _ _ _ _ hb
            have y0 := Y0.lt
            refine hKc.out _ _ (Blk.of_block Y1 (so _ (by omega))) (fun hHeld => ?_)
            clear hKc Kc
            refine wpAnyH_done (by kernel_rfl) ?_ _
            go_wp2_with fail
            go_meet
            case rel =>
              refine ⟨wM1.heap.size, wM2.heap.size, wA.heap.size, rfl, ?_, ⟨Blk.of_block Y0 (so _ (by omega)), Blk.of_block Y1 (so _ (by omega)), Blk.of_block Y2 (so _ (by omega)), XC.row _, ?_, ?_, by omega, below_setRow KP (by omega) _⟩⟩
              · exact (G0.row (g := wM1.heap.size) (by show ¬ (_ < _); omega) _).now
              · exact (NK _).put (by omega) (fun h => h.2.2.2 rfl) _
              · exact (NV _).put (by omega) (fun h => h.2.2.2 rfl) _
        · simp only [List.getElem_toArray, List.getElem_cons_succ, List.getElem_cons_zero]
          rw [if_pos (by rfl)]
          go_wp2_with fail
          have XC := blk_new wA 40 #[.slice none 0 0, .slice none 0 0]
          have EM1 : Below wA.heap.size wA (wA.alloc (.cells #[.slice none 0 0, .slice none 0 0] 40)) := (Below.refl _ _).alloc (Nat.le_refl _) _
          have zwM1 : wA.heap.size < (wA.alloc (.cells #[.slice none 0 0, .slice none 0 0] 40)).heap.size := by simp
          generalize hn1 : wA.alloc (.cells #[.slice none 0 0, .slice none 0 0] 40) = wM1 at *
          replace Y0 := Y0.below EM1
          replace Y1 := Y1.below EM1
          replace Y2 := Y2.below EM1
          replace KP := below_then KP EM1
          replace G0 := G0.below EM1
          refine hKc.out _ _ Y1 (fun hHeld => ?_)
          clear hKc Kc hn1
          refine wpAnyH_ready (rs := [3, 7]) (by kernel_rfl) (by simp) ?_
          refine AllReadyH.cons rfl (fun Kc hKc => ?_) (AllReadyH.cons rfl (fun Kc hKc => ?_) AllReadyH.nil)
          · simp only [List.getElem_toArray, List.getElem_cons_succ, List.getElem_cons_zero]
            rw [if_pos (by rfl)]
            go_wp2_with fail
            have NK := HKV wM1
            have EM2 : Below wM1.heap.size wM1 (wM1.alloc (.cells (madeCells #[.slice none 0 0] L) 51)) := (Below.refl _ _).alloc (Nat.le_refl _) _
            have zwM2 : wM1.heap.size < (wM1.alloc (.cells (madeCells #[.slice none 0 0] L) 51)).heap.size := by simp
            generalize hn2 : wM1.alloc (.cells (madeCells #[.slice none 0 0] L) 51) = wM2 at *
            replace Y0 := Y0.below EM2
            replace Y1 := Y1.below EM2
            replace Y2 := Y2.below EM2
            replace KP := below_then KP EM2
            replace G0 := G0.below EM2
            replace XC := XC.below EM2
            refine hKc.out _ _ Y1 (fun hHeld => ?_)
            clear hKc Kc hn2
            refine wpAnyH_ready (rs := [7]) (by kernel_rfl) (by simp) ?_
            refine AllReadyH.cons rfl (fun Kc hKc => ?_) AllReadyH.nil
            simp only [List.getElem_toArray, List.getElem_cons_succ, List.getElem_cons_zero]
            rw [if_pos (by rfl)]
            go_wp2_with fail
            have NV := HVV wM2
            have EM3 : Below wM2.heap.size wM2 (wM2.alloc (.cells (madeCells #[.slice none 0 0] L) 51)) := (Below.refl _ _).alloc (Nat.le_refl _) _
            have zwM3 : wM2.heap.size < (wM2.alloc (.cells (madeCells #[.slice none 0 0] L) 51)).heap.size := by simp
            generalize hn3 : wM2.alloc (.cells (madeCells #[.slice none 0 0] L) 51) = wM3 at *
            replace Y0 := Y0.below EM3
            replace Y1 := Y1.below EM3
            replace Y2 := Y2.below EM3
            replace KP := below_then KP EM3
            replace G0 := G0.below EM3
            replace XC := XC.below EM3
            replace NK := fun p => (NK p).below EM3
            refine hKc.out _ _ Y1 (fun hHeld => ?_)
            clear hKc Kc hn3
            refine wpAnyH_take (i := 8) (v := (.agg #[.slice (some ⟨wM1.heap.size, 0, none⟩) L L, .slice (some ⟨wM2.heap.size, 0, none⟩) L L])) rfl (by kernel_rfl) (by kernel_rfl) (by kernel_rfl) (fun _ _ _ h => h) (Or.inl ⟨by rfl, ?_⟩) (by assumption) ?_
            · intro w' hSw
              go_simp
            simp only [List.getElem_toArray, List.getElem_cons_succ, List.getElem_cons_zero, Act.put, List.setIfInBounds_toArray, List.set_cons_zero, List.set_cons_succ]
            refine wpAnyH_ready (rs := [10]) (by kernel_rfl) (by simp) ?_
            refine AllReadyH.cons rfl (fun Kc hKc => ?_) AllReadyH.nil
            simp only [List.getElem_toArray, List.getElem_cons_succ, List.getElem_cons_zero]
            rw [if_pos (by rfl)]
            have hall : Array.all (#[.slice (some ⟨wM1.heap.size, 0, none⟩) L L, .slice (some ⟨wM2.heap.size, 0, none⟩) L L] : Array Value) (fun v => v.oneCell') = true := by simp [Value.oneCell']
            refine wp_store_row 40 _ _ rfl (wA.heap.size) #[.slice (some ⟨wM1.heap.size, 0, none⟩) L L, .slice (some ⟨wM2.heap.size, 0, none⟩) L L] rfl rfl 40 _ XC Tryd.infoCa rfl hall ?_
            have so : ∀ b, b ≠ wA.heap.size → (wM3.setRow (wA.heap.size) #[.slice (some ⟨wM1.heap.size, 0, none⟩) L L, .slice (some ⟨wM2.heap.size, 0, none⟩) L L]).heap[b]? = wM3.heap[b]? := fun b hb => setRow_other _ _ _ _ hb
            have y0 := Y0.lt
            refine hKc.out _ _ (Blk.of_block Y1 (so _ (by omega))) (fun hHeld => ?_)
            clear hKc Kc
            refine wpAnyH_done (by kernel_rfl) ?_ _
            go_wp2_with fail
            go_meet
            case rel =>
              refine ⟨wA.heap.size, wM1.heap.size, wM2.heap.size, rfl, ?_, ⟨Blk.of_block Y0 (so _ (by omega)), Blk.of_block Y1 (so _ (by omega)), Blk.of_block Y2 (so _ (by omega)), XC.row _, ?_, ?_, by omega, below_setRow KP (by omega) _⟩⟩
              · exact (G0.row (g := wA.heap.size) (by show ¬ (_ < _); omega) _).now
              · exact (NK _).put (by omega) (fun h => h.2.2.2 rfl) _
              · exact (NV _).put (by omega) (fun h => h.2.2.2 rfl) _
          · simp only [List.getElem_toArray, List.getElem_cons_succ, List.getElem_cons_zero]
            rw [if_pos (by rfl)]
            go_wp2_with fail
            have NV := HVV wM1
            have EM2 : Below wM1.heap.size wM1 (wM1.alloc (.cells (madeCells #[.slice none 0 0] L) 51)) := (Below.refl _ _).alloc (Nat.le_refl _) _
            have zwM2 : wM1.heap.size < (wM1.alloc (.cells (madeCells #[.slice none 0 0] L) 51)).heap.size := by simp
            generalize hn2 : wM1.alloc (.cells (madeCells #[.slice none 0 0] L) 51) = wM2 at *
            replace Y0 := Y0.below EM2
            replace Y1 := Y1.below EM2
            replace Y2 := Y2.below EM2
            replace KP := below_then KP EM2
            replace G0 := G0.below EM2
            replace XC := XC.below EM2
            refine hKc.out _ _ Y1 (fun hHeld => ?_)
            clear hKc Kc hn2
            refine wpAnyH_ready (rs := [3]) (by kernel_rfl) (by simp) ?_
            refine AllReadyH.cons rfl (fun Kc hKc => ?_) AllReadyH.nil
            simp only [List.getElem_toArray, List.getElem_cons_succ, List.getElem_cons_zero]
            rw [if_pos (by rfl)]
            go_wp2_with fail
            have NK := HKV wM2
            have EM3 : Below wM2.heap.size wM2 (wM2.alloc (.cells (madeCells #[.slice none 0 0] L) 51)) := (Below.refl _ _).alloc (Nat.le_refl _) _
            have zwM3 : wM2.heap.size < (wM2.alloc (.cells (madeCells #[.slice none 0 0] L) 51)).heap.size := by simp
            generalize hn3 : wM2.alloc (.cells (madeCells #[.slice none 0 0] L) 51) = wM3 at *
            replace Y0 := Y0.below EM3
            replace Y1 := Y1.below EM3
            replace Y2 := Y2.below EM3
            replace KP := below_then KP EM3
            replace G0 := G0.below EM3
            replace XC := XC.below EM3
            replace NV := fun p => (NV p).below EM3
            refine hKc.out _ _ Y1 (fun hHeld => ?_)
            clear hKc Kc hn3
            refine wpAnyH_take (i := 8) (v := (.agg #[.slice (some ⟨wM2.heap.size, 0, none⟩) L L, .slice (some ⟨wM1.heap.size, 0, none⟩) L L])) rfl (by kernel_rfl) (by kernel_rfl) (by kernel_rfl) (fun _ _ _ h => h) (Or.inl ⟨by rfl, ?_⟩) (by assumption) ?_
            · intro w' hSw
              go_simp
            simp only [List.getElem_toArray, List.getElem_cons_succ, List.getElem_cons_zero, Act.put, List.setIfInBounds_toArray, List.set_cons_zero, List.set_cons_succ]
            refine wpAnyH_ready (rs := [10]) (by kernel_rfl) (by simp) ?_
            refine AllReadyH.cons rfl (fun Kc hKc => ?_) AllReadyH.nil
            simp only [List.getElem_toArray, List.getElem_cons_succ, List.getElem_cons_zero]
            rw [if_pos (by rfl)]
            have hall : Array.all (#[.slice (some ⟨wM2.heap.size, 0, none⟩) L L, .slice (some ⟨wM1.heap.size, 0, none⟩) L L] : Array Value) (fun v => v.oneCell') = true := by simp [Value.oneCell']
            refine wp_store_row 40 _ _ rfl (wA.heap.size) #[.slice (some ⟨wM2.heap.size, 0, none⟩) L L, .slice (some ⟨wM1.heap.size, 0, none⟩) L L] rfl rfl 40 _ XC Tryd.infoCa rfl hall ?_
            have so : ∀ b, b ≠ wA.heap.size → (wM3.setRow (wA.heap.size) #[.slice (some ⟨wM2.heap.size, 0, none⟩) L L, .slice (some ⟨wM1.heap.size, 0, none⟩) L L]).heap[b]? = wM3.heap[b]? := fun b hb => setRow_other _ _ _ _ hb
            have y0 := Y0.lt
            refine hKc.out _ _ (Blk.of_block Y1 (so _ (by omega))) (fun hHeld => ?_)
            clear hKc Kc
            refine wpAnyH_done (by kernel_rfl) ?_ _
            go_wp2_with fail
            go_meet
            case rel =>
              refine ⟨wA.heap.size, wM2.heap.size, wM1.heap.size, rfl, ?_, ⟨Blk.of_block Y0 (so _ (by omega)), Blk.of_block Y1 (so _ (by omega)), Blk.of_block Y2 (so _ (by omega)), XC.row _, ?_, ?_, by omega, below_setRow KP (by omega) _⟩⟩
              · exact (G0.row (g := wA.heap.size) (by show ¬ (_ < _); omega) _).now
              · exact (NK _).put (by omega) (fun h => h.2.2.2 rfl) _
              · exact (NV _).put (by omega) (fun h => h.2.2.2 rfl) _
      case rest =>
        obtain ⟨gC, gK, gV, rfl, GR, FF⟩ := hcut
        clear XX0 Y0 Y1 Y2 KP G0 hmk2
        have X1 := FF.x1
        have c3 : wc.cell? ⟨w.heap.size + 1, 3, none⟩ = some (.slice ba L bz) := X1.cell 3 wb
        go_wp2_with fail
        clear c3 X1
        go_loopg [61, 11] L (fun r i s wr => ∃ (t gr : Nat), t ≤ L ∧ r = L - t ∧ i = .int .i64 t ∧ s = .slice (some ⟨gr, 0, none⟩) k k ∧ GridAt wr (some ⟨gr, 0, none⟩) k (rowsL M D H Hd A t) ∧ FI w wr #[.int .i64 (V : Int), .int .i64 (D : Int), .int .i64 (Hd : Int), .int .i64 (H : Int), .int .i64 (L : Int)] ws gC gK gV L t (fullK M D H Hd L A) (fullV M D H Hd L A))
        case atStart => exact ⟨0, w4.heap.size, by omega, by omega, rfl, rfl, GR, FF⟩
        case round =>
          obtain ⟨t, gr, htl, rfl, rfl, rfl, GR, FF⟩ := hrel
          by_cases hlt : t < L
          · obtain ⟨x, hx⟩ : ∃ x, bs[t]? = some x := ⟨_, List.getElem?_eq_getElem (by omega)⟩
            have WW := (HG.out wr FF.kp).wt
            obtain ⟨Lx, hLx, BK⟩ := WW.ls t x hx
            have HLx : Hid (layAt M t = Lx) := by show _ = _; unfold layAt; rw [List.getD_eq_getElem?_getD, hLx]; rfl
            obtain ⟨g, o, e0, hc⟩ := WW.b.cells (by show 0 < L; omega)
            simp only at e0
            subst e0
            have r0 := hc t x hx
            clear hc hLx WW
            have HO := fun (ro : Option Addr) (nn cc : Nat) (R : List (List Int)) (wv : World) h1' (hb : BkAt wv D H x Lx) h3' h4' h5' => layer_any V D Hd H H L x Lx ro nn cc R wv h1' hb h3' h4' h5' (by omega) (by omega) (by omega) (by omega) hmod (by omega)
            unfold cfgC at HO
            have one := bk_one x
            have siz2 := bk_size x
            generalize x.cells = cs at *
            have XZ := blk_new wr 59 #[.slice none 0 0, .int .i64 0, .int .i64 0, .slice none 0 0, .int .i64 0, .int .i64 0, .slice none 0 0, .int .i64 0, .int .i64 0, .slice none 0 0, .int .i64 0, .int .i64 0, .slice none 0 0, .slice none 0 0, .int .i64 0, .int .i64 0, .slice none 0 0, .int .i64 0, .int .i64 0, .slice none 0 0]
            have BZ : Below wr.heap.size wr (wr.alloc (.cells #[.slice none 0 0, .int .i64 0, .int .i64 0, .slice none 0 0, .int .i64 0, .int .i64 0, .slice none 0 0, .int .i64 0, .int .i64 0, .slice none 0 0, .int .i64 0, .int .i64 0, .slice none 0 0, .slice none 0 0, .int .i64 0, .int .i64 0, .slice none 0 0, .int .i64 0, .int .i64 0, .slice none 0 0] 59)) := (Below.refl _ _).alloc (Nat.le_refl _) _
            generalize hwz : wr.alloc (.cells #[.slice none 0 0, .int .i64 0, .int .i64 0, .slice none 0 0, .int .i64 0, .int .i64 0, .slice none 0 0, .int .i64 0, .int .i64 0, .slice none 0 0, .int .i64 0, .int .i64 0, .slice none 0 0, .slice none 0 0, .int .i64 0, .int .i64 0, .slice none 0 0, .int .i64 0, .int .i64 0, .slice none 0 0] 59) = wz at *
            have XR := XZ.row cs
            have BR := below_setRow BZ (Nat.le_refl _) cs
            generalize hwy : wz.setRow wr.heap.size cs = wy at *
            have HL : Hid (cs.toList.toArray = cs) := by show _ = _; simp
            have ltk := FF.k.lt
            have ltv := FF.v.lt
            have ltc := FF.xc.lt
            have ne := FF.ne
            have FY := (FF.below BR).below ((Below.refl _ _).drew)
            have GY := (GR.below BR).below ((Below.refl _ _).drew)
            have XY := XR.below ((Below.refl _ _).drew)
            have BY := (BK.below BR).below ((Below.refl _ _).drew)
            have sY : wr.heap.size ≤ wy.drew.heap.size := BR.size
            have rl : ∀ s, s < k → (rowOf (rowsL M D H Hd A t) s).length = D := fun s hs => rowsL_row M D H Hd A t s (by rw [HLN.out]; exact hs)
            have E1 : Hid ((fullK M D H Hd L A).getD t [] = keysR Lx D (rowsL M D H Hd A t)) := by show _ = _; rw [fullK_at _ _ _ _ _ _ hlt, HLx.out]
            have E2 : Hid ((fullV M D H Hd L A).getD t [] = valsR Lx D (rowsL M D H Hd A t)) := by show _ = _; rw [fullV_at _ _ _ _ _ _ hlt, HLx.out]
            have E3 : Hid (rowsL M D H Hd A (t + 1) = madeR Lx D H Hd (rowsL M D H Hd A t)) := by show _ = _; rw [← HLx.out]; rfl
            clear FF GR BK BZ
            go_wp2_with (first | (refine wpList_load_mid rfl 59 _ rfl g (o + t * 20) rfl cs.toList _ r0 Tryd.underlying59 rfl (by rw [Array.length_toList, siz2]; exact Tryd.infoB) ?_; rw [HL.out]) | (refine wpList_store_row rfl 59 _ _ rfl wr.heap.size cs rfl rfl 59 _ XZ (by rw [siz2]; exact Tryd.infoB) siz2.symm one ?_; rw [hwy]))
            clear hwz hwy XZ XR r0 HL
            refine wp_region_held_drew (S := fun w' => Blk w' w.heap.size 23 #[.int .i64 (V : Int), .int .i64 (D : Int), .int .i64 (Hd : Int), .int .i64 (H : Int), .int .i64 (L : Int)] ∧ Blk w' wr.heap.size 59 cs ∧ Blk w' gC 40 #[.slice (some ⟨gK, 0, none⟩) L L, .slice (some ⟨gV, 0, none⟩) L L]) (by kernel_rfl) (⟨FY.x0, XY, FY.xc⟩) (fun hHeld => ?_)
            refine wpAnyH_take (i := 0) (v := (.pointer (some ⟨gC, 0, none⟩))) rfl (by kernel_rfl) (by kernel_rfl) (by kernel_rfl) (fun _ _ _ h => h) (Or.inl ⟨by rfl, ?_⟩) (by assumption) ?_
            · intro w' hSw
              go_simp
            simp only [List.getElem_toArray, List.getElem_cons_zero, Act.put, List.setIfInBounds_toArray, List.set_cons_zero, List.set_cons_succ]
            refine wpAnyH_take (i := 1) (v := (.slice (some ⟨gK, 0, none⟩) L L)) rfl (by kernel_rfl) (by kernel_rfl) (by kernel_rfl) (fun _ _ _ h => h) (Or.inl ⟨by rfl, ?_⟩) (by assumption) ?_
            · intro w' hSw
              have ck : w'.cell? ⟨gC, 0, none⟩ = some (.slice (some ⟨gK, 0, none⟩) L L) := hSw.2.2.cell 0 rfl
              go_simp
            simp only [List.getElem_toArray, List.getElem_cons_succ, List.getElem_cons_zero, Act.put, List.setIfInBounds_toArray, List.set_cons_zero, List.set_cons_succ]
            refine wpAnyH_take (i := 2) (v := (.int .i64 (t : Int))) rfl (by kernel_rfl) (by kernel_rfl) (by kernel_rfl) (fun _ _ _ h => h) (Or.inl ⟨by rfl, ?_⟩) (by assumption) ?_
            · intro w' hSw
              go_simp
            simp only [List.getElem_toArray, List.getElem_cons_succ, List.getElem_cons_zero, Act.put, List.setIfInBounds_toArray, List.set_cons_zero, List.set_cons_succ]
            refine wpAnyH_take (i := 3) (v := (.pointer (some ⟨gC, 1, none⟩))) rfl (by kernel_rfl) (by kernel_rfl) (by kernel_rfl) (fun _ _ _ h => h) (Or.inl ⟨by rfl, ?_⟩) (by assumption) ?_
            · intro w' hSw
              go_simp
            simp only [List.getElem_toArray, List.getElem_cons_succ, List.getElem_cons_zero, Act.put, List.setIfInBounds_toArray, List.set_cons_zero, List.set_cons_succ]
            refine wpAnyH_take (i := 4) (v := (.slice (some ⟨gV, 0, none⟩) L L)) rfl (by kernel_rfl) (by kernel_rfl) (by kernel_rfl) (fun _ _ _ h => h) (Or.inl ⟨by rfl, ?_⟩) (by assumption) ?_
            · intro w' hSw
              have cv : w'.cell? ⟨gC, 1, none⟩ = some (.slice (some ⟨gV, 0, none⟩) L L) := hSw.2.2.cell 1 rfl
              go_simp
            simp only [List.getElem_toArray, List.getElem_cons_succ, List.getElem_cons_zero, Act.put, List.setIfInBounds_toArray, List.set_cons_zero, List.set_cons_succ]
            refine wpAnyH_take (i := 5) (v := (.int .i64 (t : Int))) rfl (by kernel_rfl) (by kernel_rfl) (by kernel_rfl) (fun _ _ _ h => h) (Or.inl ⟨by rfl, ?_⟩) (by assumption) ?_
            · intro w' hSw
              go_simp
            simp only [List.getElem_toArray, List.getElem_cons_succ, List.getElem_cons_zero, Act.put, List.setIfInBounds_toArray, List.set_cons_zero, List.set_cons_succ]
            refine wpAnyH_take (i := 6) (v := (.agg #[.int .i64 (V : Int), .int .i64 (D : Int), .int .i64 (Hd : Int), .int .i64 (H : Int), .int .i64 (L : Int)])) rfl (by kernel_rfl) (by kernel_rfl) (by kernel_rfl) (fun _ _ _ h => h) (Or.inl ⟨by rfl, ?_⟩) (by assumption) ?_
            · intro w' hSw
              have cc0 : w'.cell? ⟨w.heap.size, 0, none⟩ = some (.int .i64 (V : Int)) := hSw.1.cell 0 rfl
              have cc1 : w'.cell? ⟨w.heap.size, 1, none⟩ = some (.int .i64 (D : Int)) := hSw.1.cell 1 rfl
              have cc2 : w'.cell? ⟨w.heap.size, 2, none⟩ = some (.int .i64 (Hd : Int)) := hSw.1.cell 2 rfl
              have cc3 : w'.cell? ⟨w.heap.size, 3, none⟩ = some (.int .i64 (H : Int)) := hSw.1.cell 3 rfl
              have cc4 : w'.cell? ⟨w.heap.size, 4, none⟩ = some (.int .i64 (L : Int)) := hSw.1.cell 4 rfl
              go_simp
            simp only [List.getElem_toArray, List.getElem_cons_succ, List.getElem_cons_zero, Act.put, List.setIfInBounds_toArray, List.set_cons_zero, List.set_cons_succ]
            refine wpAnyH_take (i := 7) (v := (.agg cs)) rfl (by kernel_rfl) (by kernel_rfl) (by kernel_rfl) (fun _ _ _ h => h) (Or.inl ⟨by rfl, ?_⟩) (by assumption) ?_
            · intro w' hSw
              exact yield_row 59 _ rfl wr.heap.size rfl cs (load_b hSw.2.1 siz2)
            simp only [List.getElem_toArray, List.getElem_cons_succ, List.getElem_cons_zero, Act.put, List.setIfInBounds_toArray, List.set_cons_zero, List.set_cons_succ]
            refine wpAnyH_take (i := 8) (v := (.slice (some ⟨gr, 0, none⟩) k k)) rfl (by kernel_rfl) (by kernel_rfl) (by kernel_rfl) (fun _ _ _ h => h) (Or.inl ⟨by rfl, ?_⟩) (by assumption) ?_
            · intro w' hSw
              go_simp
            simp only [List.getElem_toArray, List.getElem_cons_succ, List.getElem_cons_zero, Act.put, List.setIfInBounds_toArray, List.set_cons_zero, List.set_cons_succ]
            refine wpAnyH_ready (rs := [9]) (by kernel_rfl) (by simp) ?_
            refine AllReadyH.cons rfl (fun Kc hKc => ?_) AllReadyH.nil
            simp only [List.getElem_toArray, List.getElem_cons_succ, List.getElem_cons_zero]
            rw [if_pos (by rfl)]
            go_wp2_with fail
            refine (HO _ _ _ (rowsL M D H Hd A t) _ (HT.out _ FY.kp) BY GY rl (by omega)).mono ?_
            rintro e w9 ⟨gm, gk, gv, vm, vk, vv, rfl, NM, NK, NV, B9⟩
            have FZ := FY.below B9
            go_wp2_with fail
            refine hKc.out _ _ (⟨FZ.x0, XY.below B9, FZ.xc⟩) (fun hHeld => ?_)
            clear hKc Kc
            refine wpAnyH_take (i := 10) (v := (.tuple #[.slice (some ⟨gm, 0, none⟩) k k, .slice (some ⟨gk, 0, none⟩) k k, .slice (some ⟨gv, 0, none⟩) k k])) rfl (by kernel_rfl) (by kernel_rfl) (by kernel_rfl) (fun _ _ _ h => h) (Or.inl ⟨by rfl, ?_⟩) (by assumption) ?_
            · intro w' hSw
              go_simp
            simp only [List.getElem_toArray, List.getElem_cons_succ, List.getElem_cons_zero, Act.put, List.setIfInBounds_toArray, List.set_cons_zero, List.set_cons_succ]
            refine wpAnyH_take (i := 11) (v := (.slice (some ⟨gm, 0, none⟩) k k)) rfl (by kernel_rfl) (by kernel_rfl) (by kernel_rfl) (fun _ _ _ h => h) (Or.inl ⟨by rfl, ?_⟩) (by assumption) ?_
            · intro w' hSw
              go_simp
            simp only [List.getElem_toArray, List.getElem_cons_succ, List.getElem_cons_zero, Act.put, List.setIfInBounds_toArray, List.set_cons_zero, List.set_cons_succ]
            refine wpAnyH_take (i := 12) (v := (.slice (some ⟨gk, 0, none⟩) k k)) rfl (by kernel_rfl) (by kernel_rfl) (by kernel_rfl) (fun _ _ _ h => h) (Or.inl ⟨by rfl, ?_⟩) (by assumption) ?_
            · intro w' hSw
              go_simp
            simp only [List.getElem_toArray, List.getElem_cons_succ, List.getElem_cons_zero, Act.put, List.setIfInBounds_toArray, List.set_cons_zero, List.set_cons_succ]
            refine wpAnyH_take (i := 13) (v := (.slice (some ⟨gv, 0, none⟩) k k)) rfl (by kernel_rfl) (by kernel_rfl) (by kernel_rfl) (fun _ _ _ h => h) (Or.inl ⟨by rfl, ?_⟩) (by assumption) ?_
            · intro w' hSw
              go_simp
            simp only [List.getElem_toArray, List.getElem_cons_succ, List.getElem_cons_zero, Act.put, List.setIfInBounds_toArray, List.set_cons_zero, List.set_cons_succ]
            refine wpAnyH_take (i := 14) (v := (.slice (some ⟨gm, 0, none⟩) k k)) rfl (by kernel_rfl) (by kernel_rfl) (by kernel_rfl) (fun _ _ _ h => h) (Or.inl ⟨by rfl, ?_⟩) (by assumption) ?_
            · intro w' hSw
              go_simp
            simp only [List.getElem_toArray, List.getElem_cons_succ, List.getElem_cons_zero, Act.put, List.setIfInBounds_toArray, List.set_cons_zero, List.set_cons_succ]
            refine wpAnyH_take (i := 15) (v := (.pointer (some ⟨gK, t, none⟩))) rfl (by kernel_rfl) (by kernel_rfl) (by kernel_rfl) (fun _ _ _ h => h) (Or.inl ⟨by rfl, ?_⟩) (by assumption) ?_
            · intro w' hSw
              go_simp
            simp only [List.getElem_toArray, List.getElem_cons_succ, List.getElem_cons_zero, Act.put, List.setIfInBounds_toArray, List.set_cons_zero, List.set_cons_succ]
            clear hHeld HO one siz2 GY BY
            have N1 : Hangs (offF w gK gV gC) w9 fun w => GridV w (some ⟨gk, 0, none⟩) k vk ((fullK M D H Hd L A).getD t []) := by
              rw [E1.out]
              exact Hangs.mono NK fun b _ hb => ⟨by omega, by omega, by omega, by omega⟩
            have N2 : Hangs (offF w gK gV gC) w9 fun w => GridV w (some ⟨gv, 0, none⟩) k vv ((fullV M D H Hd L A).getD t []) := by
              rw [E2.out]
              exact Hangs.mono NV fun b _ hb => ⟨by omega, by omega, by omega, by omega⟩
            have FN := FZ.next hlt (by omega) N1 N2
            have s9 := B9.size
            have GN : GridAt ((w9.setCell ⟨gK, t, none⟩ (.slice (some ⟨gk, 0, none⟩) k k)).setCell ⟨gV, t, none⟩ (.slice (some ⟨gv, 0, none⟩) k k)) (some ⟨gm, 0, none⟩) k (rowsL M D H Hd A (t + 1)) := by
              rw [E3.out]
              exact ((NM.set (a := ⟨gK, t, none⟩) (by show gK < _; omega) _).set (a := ⟨gV, t, none⟩) (by show gV < _; omega) _).now.grid
            have pk : ¬ offF w gK gV gC gK := fun h => h.2.1 rfl
            have V1 := FZ.v.far (a := ⟨gK, t, none⟩) (by show gK ≠ gV; omega) pk (.slice (some ⟨gk, 0, none⟩) k k)
            have fz1 := FZ.k.frozen t
            obtain ⟨r1, m1, v1, cu1, _, _⟩ := FZ.k.at hlt
            have fz2 := V1.frozen t
            obtain ⟨r2, m2, v2, cu2, _, _⟩ := V1.at hlt
            have Q1 : Blk (w9.setCell ⟨gK, t, none⟩ (.slice (some ⟨gk, 0, none⟩) k k)) w.heap.size 23 #[.int .i64 (V : Int), .int .i64 (D : Int), .int .i64 (Hd : Int), .int .i64 (H : Int), .int .i64 (L : Int)] ∧ Blk (w9.setCell ⟨gK, t, none⟩ (.slice (some ⟨gk, 0, none⟩) k k)) wr.heap.size 59 cs ∧ Blk (w9.setCell ⟨gK, t, none⟩ (.slice (some ⟨gk, 0, none⟩) k k)) gC 40 #[.slice (some ⟨gK, 0, none⟩) L L, .slice (some ⟨gV, 0, none⟩) L L] := ⟨FZ.x0.other (by show _ ≠ gK; omega) _, (XY.below B9).other (by show _ ≠ gK; omega) _, FZ.xc.other (by show _ ≠ gK; omega) _⟩
            have Q2 := Q1.2.1.other (a := ⟨gV, t, none⟩) (by show _ ≠ gV; omega) (.slice (some ⟨gv, 0, none⟩) k k)
            clear V1 N1 N2 NM NK NV XY FY
            refine wpAnyH_ready (rs := [16]) (by kernel_rfl) (by simp) ?_
            refine AllReadyH.cons rfl (fun Kc hKc => ?_) AllReadyH.nil
            simp only [List.getElem_toArray, List.getElem_cons_succ, List.getElem_cons_zero]
            rw [if_pos (by rfl)]
            go_wp2_with fail
            refine hKc.out _ _ Q1 (fun hHeld => ?_)
            clear hKc Kc
            generalize hS1 : w9.setCell ⟨gK, t, none⟩ (.slice (some ⟨gk, 0, none⟩) k k) = wS1 at *
            refine wpAnyH_take (i := 17) (v := (.pointer (some ⟨gV, t, none⟩))) rfl (by kernel_rfl) (by kernel_rfl) (by kernel_rfl) (fun _ _ _ h => h) (Or.inl ⟨by rfl, ?_⟩) (by assumption) ?_
            · intro w' hSw
              go_simp
            simp only [List.getElem_toArray, List.getElem_cons_succ, List.getElem_cons_zero, Act.put, List.setIfInBounds_toArray, List.set_cons_zero, List.set_cons_succ]
            refine wpAnyH_ready (rs := [18]) (by kernel_rfl) (by simp) ?_
            refine AllReadyH.cons rfl (fun Kc hKc => ?_) AllReadyH.nil
            simp only [List.getElem_toArray, List.getElem_cons_succ, List.getElem_cons_zero]
            rw [if_pos (by rfl)]
            go_wp2_with fail
            refine hKc.out _ _ ⟨FN.x0, Q2, FN.xc⟩ (fun hHeld => ?_)
            clear hKc Kc
            refine wpAnyH_done (by kernel_rfl) ?_ _
            go_wp2_with fail
            go_roundg (L - (t + 1))
            case measure => omega
            case rel => exact ⟨t + 1, gm, by omega, rfl, by go_num, rfl, GN, FN⟩
          · obtain rfl : t = L := by omega
            obtain ⟨rb, ro, er, hc⟩ := GR.cells (by omega)
            simp only [Option.some.injEq, Addr.mk.injEq, and_true] at er
            obtain ⟨rfl, rfl⟩ := er
            obtain ⟨ko, km, kc, cr, AR⟩ := hc (k - 1) (by omega)
            obtain rfl : km = D := by rw [← rowsL_row M D H Hd A t (k - 1) (by rw [HLN.out]; omega), AR.row.len]
            rw [Nat.zero_add] at cr
            clear hc GR
            obtain ⟨m, rfl⟩ : ∃ m, k = m + 1 := ⟨k - 1, by omega⟩
            rw [Nat.add_sub_cancel] at cr AR
            have e1 : IntKind.i64.wrap (((m : Int) + 1) - 1) = (m : Int) := by rw [show ((m : Int) + 1) - 1 = m by omega]; exact wrap_in (by omega)
            have e0 : IntKind.i64.wrap (m : Int) = (m : Int) := wrap_in (by omega)
            have hnm : ¬ ((m : Int) + 1 ≤ (m : Int)) := by omega
            have FY := FF.below ((Below.refl _ _).drew)
            have AY := AR.below ((Below.refl _ _).drew)
            have cY : wr.drew.cell? ⟨gr, m, none⟩ = some (.slice ko km kc) := cr
            have ne := FF.ne
            have HX : Hid (fullX M V km H Hd t A = likR M V km (rowOf (rowsL M km H Hd A t) m)) := by show _ = _; unfold fullX; rw [HLN.out, Nat.add_sub_cancel]
            clear FF AR cr
            go_wp2_with fail
            refine wp_region_held_drew (S := fun w' => Blk w' (w.heap.size + 1) 32 ws ∧ Blk w' gC 40 #[.slice (some ⟨gK, 0, none⟩) t t, .slice (some ⟨gV, 0, none⟩) t t] ∧ w'.cell? ⟨gr, m, none⟩ = some (.slice ko km kc)) (by kernel_rfl) (⟨FY.x1, FY.xc, cY⟩) (fun hHeld => ?_)
            refine wpAnyH_take (i := 0) (v := (.agg ws)) rfl (by kernel_rfl) (by kernel_rfl) (by kernel_rfl) (fun _ _ _ h => h) (Or.inl ⟨by rfl, ?_⟩) (by assumption) ?_
            · intro w' hSw
              exact yield_row 32 _ rfl (w.heap.size + 1) rfl ws (load_w hSw.1 siz)
            simp only [List.getElem_toArray, List.getElem_cons_zero, Act.put, List.setIfInBounds_toArray, List.set_cons_zero, List.set_cons_succ]
            refine wpAnyH_take (i := 1) (v := (.slice (some ⟨gr, 0, none⟩) (m + 1) (m + 1))) rfl (by kernel_rfl) (by kernel_rfl) (by kernel_rfl) (fun _ _ _ h => h) (Or.inl ⟨by rfl, ?_⟩) (by assumption) ?_
            · intro w' hSw
              go_simp
            simp only [List.getElem_toArray, List.getElem_cons_succ, List.getElem_cons_zero, Act.put, List.setIfInBounds_toArray, List.set_cons_zero, List.set_cons_succ]
            refine wpAnyH_take (i := 2) (v := (.slice (some ⟨gr, 0, none⟩) (m + 1) (m + 1))) rfl (by kernel_rfl) (by kernel_rfl) (by kernel_rfl) (fun _ _ _ h => h) (Or.inl ⟨by rfl, ?_⟩) (by assumption) ?_
            · intro w' hSw
              go_simp
            simp only [List.getElem_toArray, List.getElem_cons_succ, List.getElem_cons_zero, Act.put, List.setIfInBounds_toArray, List.set_cons_zero, List.set_cons_succ]
            refine wpAnyH_take (i := 3) (v := (.int .i64 ((m : Int) + 1))) rfl (by kernel_rfl) (by kernel_rfl) (by kernel_rfl) (fun _ _ _ h => h) (Or.inl ⟨by rfl, ?_⟩) (by assumption) ?_
            · intro w' hSw
              go_simp
            simp only [List.getElem_toArray, List.getElem_cons_succ, List.getElem_cons_zero, Act.put, List.setIfInBounds_toArray, List.set_cons_zero, List.set_cons_succ]
            refine wpAnyH_take (i := 4) (v := (.int .i64 (m : Int))) rfl (by kernel_rfl) (by kernel_rfl) (by kernel_rfl) (fun _ _ _ h => h) (Or.inl ⟨by rfl, ?_⟩) (by assumption) ?_
            · intro w' hSw
              go_simp
            simp only [List.getElem_toArray, List.getElem_cons_succ, List.getElem_cons_zero, Act.put, List.setIfInBounds_toArray, List.set_cons_zero, List.set_cons_succ]
            refine wpAnyH_take (i := 5) (v := (.pointer (some ⟨gr, m, none⟩))) rfl (by kernel_rfl) (by kernel_rfl) (by kernel_rfl) (fun _ _ _ h => h) (Or.inl ⟨by rfl, ?_⟩) (by assumption) ?_
            · intro w' hSw
              go_simp
            simp only [List.getElem_toArray, List.getElem_cons_succ, List.getElem_cons_zero, Act.put, List.setIfInBounds_toArray, List.set_cons_zero, List.set_cons_succ]
            refine wpAnyH_take (i := 6) (v := (.slice ko km kc)) rfl (by kernel_rfl) (by kernel_rfl) (by kernel_rfl) (fun _ _ _ h => h) (Or.inl ⟨by rfl, ?_⟩) (by assumption) ?_
            · intro w' hSw
              have cm := hSw.2.2
              go_simp
            simp only [List.getElem_toArray, List.getElem_cons_succ, List.getElem_cons_zero, Act.put, List.setIfInBounds_toArray, List.set_cons_zero, List.set_cons_succ]
            refine wpAnyH_take (i := 8) (v := (.agg #[.slice (some ⟨gK, 0, none⟩) t t, .slice (some ⟨gV, 0, none⟩) t t])) rfl (by kernel_rfl) (by kernel_rfl) (by kernel_rfl) (fun _ _ _ h => h) (Or.inl ⟨by rfl, ?_⟩) (by assumption) ?_
            · intro w' hSw
              exact yield_row 40 _ rfl gC rfl _ (load_ca hSw.2.1 rfl)
            simp only [List.getElem_toArray, List.getElem_cons_succ, List.getElem_cons_zero, Act.put, List.setIfInBounds_toArray, List.set_cons_zero, List.set_cons_succ]
            refine wpAnyH_ready (rs := [7]) (by kernel_rfl) (by simp) ?_
            refine AllReadyH.cons rfl (fun Kc hKc => ?_) AllReadyH.nil
            simp only [List.getElem_toArray, List.getElem_cons_succ, List.getElem_cons_zero]
            rw [if_pos (by rfl)]
            go_wp2_with fail
            refine (CL _ FY.kp _ _ _ AY.row).mono ?_
            rintro e w9 ⟨gl, rfl, FL, B9⟩
            have FZ := FY.below B9
            have cZ := cell_keep cY B9
            go_wp2_with fail
            refine hKc.out _ _ (⟨FZ.x1, FZ.xc, cZ⟩) (fun hHeld => ?_)
            clear hKc Kc
            refine wpAnyH_take (i := 9) (v := (.slice (some ⟨gl, 0, none⟩) V V)) rfl (by kernel_rfl) (by kernel_rfl) (by kernel_rfl) (fun _ _ _ h => h) (Or.inl ⟨by rfl, ?_⟩) (by assumption) ?_
            · intro w' hSw
              go_simp
            simp only [List.getElem_toArray, List.getElem_cons_succ, List.getElem_cons_zero, Act.put, List.setIfInBounds_toArray, List.set_cons_zero, List.set_cons_succ]
            refine wpAnyH_ready (rs := [10]) (by kernel_rfl) (by simp) ?_
            refine AllReadyH.cons rfl (fun Kc hKc => ?_) AllReadyH.nil
            simp only [List.getElem_toArray, List.getElem_cons_succ, List.getElem_cons_zero]
            rw [if_pos (by rfl)]
            have hall : Array.all (#[.slice (some ⟨gK, 0, none⟩) t t, .slice (some ⟨gV, 0, none⟩) t t] : Array Value) (fun v => v.oneCell') = true := by simp [Value.oneCell']
            refine wp_store_row 40 _ _ rfl (w.heap.size + 1 + 1) #[.slice (some ⟨gK, 0, none⟩) t t, .slice (some ⟨gV, 0, none⟩) t t] rfl rfl 40 _ FZ.x2 Tryd.infoCa rfl hall ?_
            have so : ∀ b, b ≠ w.heap.size + 1 + 1 → (w9.setRow (w.heap.size + 1 + 1) #[.slice (some ⟨gK, 0, none⟩) t t, .slice (some ⟨gV, 0, none⟩) t t]).heap[b]? = w9.heap[b]? := fun b hb => setRow_other _ _ _ _ hb
            have cN : (w9.setRow (w.heap.size + 1 + 1) #[.slice (some ⟨gK, 0, none⟩) t t, .slice (some ⟨gV, 0, none⟩) t t]).cell? ⟨gr, m, none⟩ = some (.slice ko km kc) := by
              rw [World.cell?_of_block (so gr (by
                rintro rfl
                have h9 := FZ.x2
                unfold Blk at h9
                unfold World.cell? at cZ
                simp only [h9] at cZ
                rcases m with _ | _ | m
                · simp at cZ; have := AY.row.cells (by omega); obtain ⟨_, _, e, _⟩ := this; rw [← cZ.1] at e; cases e
                · simp at cZ; have := AY.row.cells (by omega); obtain ⟨_, _, e, _⟩ := this; rw [← cZ.1] at e; cases e
                · simp at cZ))]
              exact cZ
            refine hKc.out _ _ ⟨Blk.of_block FZ.x1 (so _ (by omega)), Blk.of_block FZ.xc (so _ (by omega)), cN⟩ (fun hHeld => ?_)
            clear hKc Kc
            refine wpAnyH_take (i := 11) (v := (.int .i64 0)) rfl (by kernel_rfl) (by kernel_rfl) (by kernel_rfl) (fun _ _ _ h => h) (Or.inl ⟨by rfl, ?_⟩) (by assumption) ?_
            · intro w' hSw
              go_simp
            simp only [List.getElem_toArray, List.getElem_cons_succ, List.getElem_cons_zero, Act.put, List.setIfInBounds_toArray, List.set_cons_zero, List.set_cons_succ]
            refine wpAnyH_done (by kernel_rfl) ?_ _
            go_wp2
            refine bodyPost_ret (results_mid rfl _ _ (w.heap.size + 1 + 1) _ rfl (load_ca (FZ.x2.row _) rfl)) rfl ?_
            rw [HX.out]
            have sF := FY.kp.size
            refine ⟨gl, gK, gV, rfl, (FL.of_block (so gl (FL.ne FZ.x2 (by decide)))).mono sF, ?_, ?_, below_setRow FZ.kp (by omega) _⟩
            · exact (FZ.k.put (g2 := w.heap.size + 1 + 1) (by omega) (fun h => by have := h.1; omega) _).cube LF.out.1 (by omega) (fun b hb => by have := hb.1; omega) (by omega)
            · exact (FZ.v.put (g2 := w.heap.size + 1 + 1) (by omega) (fun h => by have := h.1; omega) _).cube LF.out.2 (by omega) (fun b hb => by have := hb.1; omega) (by omega)
end Go.Proofs.YthmpfmclbmhkfaaDoor

/- Package greedy: requests, ends, and the token that is liked best. -/
namespace Go.Proofs.YthmpfmclbmhkfaaDoor
open Go.ChangeShapes Go.WideShapes Go.ChangeAt Go.RowKit
/-- Is the last token the end? -/
def endB (A : List Int) : Bool := decide (0 < A.length) && decide (el A (A.length - 1) = 0)
def overB (A : List Int) (most : Int) : Bool := decide (most ≤ (A.length : Int)) || endB A
/-- The error's number of a request. -/
def askedN (V : Int) (A : List Int) (most : Int) : Int := if promptN V A ≠ 0 then promptN V A else if most < 1 then 1 else if 128 - (A.length : Int) < most then 2 else 0
theorem amax_pos (A : List Int) : ∀ k, 0 ≤ amax A (k + 1)
  | 0 => by simp [amax]
  | k + 1 => by
    have := amax_pos A k
    rw [amax]
    split <;> omega
end Go.Proofs.YthmpfmclbmhkfaaDoor

/- Package greedy: Run: what a model says behind a prompt. -/
namespace Go.Proofs.YthmpfmclbmhkfaaDoor
open Go.ChangeShapes Go.WideShapes Go.ChangeAt Go.RowKit
def noX : Vw := ⟨[], [], []⟩
/-- Behind j tokens of an answer: the view, the answer, and the tokens that the view lacks. -/
structure RunS where
  X : Vw
  Y : List Int
  T : List Int
def runS (M : Mdl) (V D H Hd L : Nat) (P : List Int) : Nat → RunS
  | 0 => ⟨noX, [], P⟩
  | j + 1 => ⟨feedAll M D H Hd L (runS M V D H Hd L P j).X (runS M V D H Hd L P j).T,
      (runS M V D H Hd L P j).Y ++ [amax (likAt M V D H Hd L (runS M V D H Hd L P j).X (runS M V D H Hd L P j).T (runS M V D H Hd L P j).T.length) V],
      [amax (likAt M V D H Hd L (runS M V D H Hd L P j).X (runS M V D H Hd L P j).T (runS M V D H Hd L P j).T.length) V]⟩
theorem runS_len (M : Mdl) (V D H Hd L : Nat) (P : List Int) : ∀ j, (runS M V D H Hd L P j).Y.length = j
  | 0 => rfl
  | j + 1 => by show (_ ++ [_]).length = _; rw [List.length_append, runS_len M V D H Hd L P j]; rfl
theorem runS_sum (M : Mdl) (V D H Hd L : Nat) (P : List Int) : ∀ j, (runS M V D H Hd L P j).X.T.length + (runS M V D H Hd L P j).T.length = P.length + j
  | 0 => by show 0 + P.length = _; omega
  | j + 1 => by
    show (feedAll M D H Hd L _ _).T.length + 1 = _
    rw [feedAll_len, runS_sum M V D H Hd L P j]
    omega
theorem amax_tok (A : List Int) {V : Nat} (hV : 1 ≤ V) : 0 ≤ amax A V ∧ amax A V < V := by
  obtain ⟨k, rfl⟩ : ∃ k, V = k + 1 := ⟨V - 1, by omega⟩
  exact ⟨amax_pos A k, (amax_bd A (k + 1)).2⟩
theorem noX_fit (V : Int) (D L : Nat) : VwFit V D L noX := ⟨by show 0 ≤ 128; omega, rfl, rfl, rfl, (fun _ h => by cases h), (fun _ h => by cases h)⟩
theorem runS_toks {M : Mdl} {V D H Hd L : Nat} {P : List Int} (hV : 1 ≤ V) (hP : promptN V P = 0) : ∀ j, promptN V (runS M V D H Hd L P j).T = 0
  | 0 => hP
  | j + 1 => by
    have h := amax_tok (likAt M V D H Hd L (runS M V D H Hd L P j).X (runS M V D H Hd L P j).T (runS M V D H Hd L P j).T.length) hV
    show promptN V [amax _ V] = 0
    unfold promptN
    rw [if_neg (by simp), if_neg (by simp)]
    have : List.all [amax (likAt M V D H Hd L (runS M V D H Hd L P j).X (runS M V D H Hd L P j).T (runS M V D H Hd L P j).T.length) (V : Nat)] (tokB V) = true := by
      simp only [List.all_cons, List.all_nil, Bool.and_true]
      unfold tokB
      exact decide_eq_true h
    rw [if_pos this]
theorem runS_fit {M : Mdl} {V D H Hd L : Nat} {P : List Int} (hV : 1 ≤ V) (hP : promptN V P = 0) : ∀ j, P.length + j ≤ 129 → VwFit V D L (runS M V D H Hd L P j).X
  | 0, _ => noX_fit _ _ _
  | j + 1, h => by
    have hs := runS_sum M V D H Hd L P j
    exact feedAll_fit (runS_fit hV hP j (by omega)) (prompt_ok (runS_toks hV hP j)).2.2 (by omega)
theorem asked_ok {V : Int} {A : List Int} {most : Int} (h : askedN V A most = 0) : promptN V A = 0 ∧ 1 ≤ most ∧ most ≤ 128 - (A.length : Int) := by
  unfold askedN at h
  split at h
  · rename_i h1; exact absurd h h1
  · rename_i h1
    split at h
    · omega
    · split at h
      · omega
      · exact ⟨by simpa using h1, by omega, by omega⟩
theorem over_not {A : List Int} {most : Int} (h : overB A most = false) : (A.length : Int) < most := by
  unfold overB at h
  rw [Bool.or_eq_false_iff] at h
  simpa using h.1
theorem one_int {w : World} {bo : Nat} {x : Int} (h : w.cell? ⟨bo, 0, none⟩ = some (.int .i64 x)) : ∀ j u, ([x].map (Value.int .i64))[j]? = some u → w.cell? ((Addr.mk bo 0 none).add j) = some u := by
  intro j u hj
  match j, hj with
  | 0, hj =>
    simp at hj
    subst hj
    have e2 : (Addr.mk bo 0 none).add 0 = ⟨bo, 0, none⟩ := by simp [Addr.add]
    rw [e2, h]
theorem iarg_one {w : World} {bo : Nat} {x : Int} (h : Blk w bo 3 #[.int .i64 x]) (h1 : -9223372036854775808 ≤ x) (h2 : x ≤ 9223372036854775807) : IArg w (some ⟨bo, 0, none⟩) 1 1 [x] := by
  refine ⟨⟨rfl, by omega, fun k => ?_, fun _ => ⟨bo, 0, rfl, fun t ht => ?_⟩⟩, by omega, by omega, fun h => by cases h⟩
  · cases k with
    | zero => exact ⟨h1, h2⟩
    | succ k => simp [el]
  · obtain rfl : t = 0 := by omega
    exact h.cell 0 rfl
theorem el_snoc_bd {A : List Int} {x : Int} (h : ∀ k, -9223372036854775808 ≤ el A k ∧ el A k ≤ 9223372036854775807) (h1 : -9223372036854775808 ≤ x) (h2 : x ≤ 9223372036854775807) (k : Nat) : -9223372036854775808 ≤ el (A ++ [x]) k ∧ el (A ++ [x]) k ≤ 9223372036854775807 := by
  rcases Nat.lt_or_ge k A.length with hk | hk
  · rw [el_append_left hk]; exact h k
  · unfold el
    rw [List.getD_eq_getElem?_getD, List.getElem?_append_right hk]
    rcases Nat.eq_zero_or_pos (k - A.length) with h0 | h0
    · rw [h0]; exact ⟨h1, h2⟩
    · rw [List.getElem?_eq_none (by simp; omega)]; simp
theorem runS_yb (M : Mdl) (V D H Hd L : Nat) (P : List Int) (hV : 1 ≤ V) (hV2 : V ≤ 4096) : ∀ (j k : Nat), -9223372036854775808 ≤ el (runS M V D H Hd L P j).Y k ∧ el (runS M V D H Hd L P j).Y k ≤ 9223372036854775807
  | 0, k => by
    have e : el (runS M V D H Hd L P 0).Y k = 0 := by show el [] k = 0; simp [el]
    rw [e]; omega
  | j + 1, k => by
    have ih := runS_yb M V D H Hd L P hV hV2 j
    have ht := amax_tok (likAt M V D H Hd L (runS M V D H Hd L P j).X (runS M V D H Hd L P j).T (runS M V D H Hd L P j).T.length) hV
    have e : (runS M V D H Hd L P (j + 1)).Y = (runS M V D H Hd L P j).Y ++ [amax (likAt M V D H Hd L (runS M V D H Hd L P j).X (runS M V D H Hd L P j).T (runS M V D H Hd L P j).T.length) V] := rfl
    rw [e]
    exact el_snoc_bd ih (by omega) (by omega) k
/-- Within Run: boxes, the view, the answer and the tokens behind j rounds. -/
structure RI (w wr : World) (V D H Hd L : Nat) (cfg ws : Array Value) (M : Mdl) (P : List Int) (gV j : Nat) (vv : VwV) (ya ta : Option Addr) (yc tn tc : Nat) : Prop where
  x0 : Blk wr w.heap.size 23 cfg
  x1 : Blk wr (w.heap.size + 1) 32 ws
  xv : Blk wr gV 42 vv.cells
  at_ : VwAt wr vv (runS M V D H Hd L P j).X
  y : IOwn wr (gV + 1) (.slice ya j yc) j (runS M V D H Hd L P j).Y
  t : IArg wr ta tn tc (runS M V D H Hd L P j).T
  kp : Below w.heap.size w wr
  gv : w.heap.size + 1 < gV
end Go.Proofs.YthmpfmclbmhkfaaDoor

/- THE CACHE: token by token the same comes out as from the beginning. -/
namespace Go.Proofs.YthmpfmclbmhkfaaDoor
open Go.ChangeShapes Go.WideShapes Go.ChangeAt Go.RowKit
theorem rowOf_left {R S : List (List Int)} {t : Nat} (h : t < R.length) : rowOf (R ++ S) t = rowOf R t := by
  unfold rowOf
  simp only [List.getD_eq_getElem?_getD, List.getElem?_append_left h]
theorem rowOf_last (R : List (List Int)) (x : List Int) : rowOf (R ++ [x]) R.length = x := by
  unfold rowOf
  simp
theorem madeR_snoc (L : Lay) (D H Hd : Nat) (R : List (List Int)) (x : List Int) : madeR L D H Hd (R ++ [x]) = madeR L D H Hd R ++ [oneR L D H Hd x (keysR L D R) (valsR L D R) R.length] := by
  have tk : ∀ i, i ≤ R.length → (keysR L D (R ++ [x])).take i = (keysR L D R).take i := fun i hi => by
    unfold keysR
    rw [List.map_append, List.take_append_of_le_length (by simpa using hi)]
  have tv : ∀ i, i ≤ R.length → (valsR L D (R ++ [x])).take i = (valsR L D R).take i := fun i hi => by
    unfold valsR
    rw [List.map_append, List.take_append_of_le_length (by simpa using hi)]
  unfold madeR
  rw [List.length_append, List.length_singleton, List.range_succ, List.map_append]
  congr 1
  · refine List.map_congr_left fun i hi => ?_
    have hi' : i < R.length := List.mem_range.1 hi
    rw [rowOf_left hi', tk i (by omega), tv i (by omega)]
  · have ek : (keysR L D R).take R.length = keysR L D R := List.take_of_length_le (by unfold keysR; simp)
    have ev : (valsR L D R).take R.length = valsR L D R := List.take_of_length_le (by unfold valsR; simp)
    simp only [List.map_cons, List.map_nil]
    rw [rowOf_last, tk _ (Nat.le_refl _), tv _ (Nat.le_refl _), ek, ev]
theorem begL_snoc (E : List Int) (D : Nat) (A : List Int) (t : Int) : begL E D (A ++ [t]) = begL E D A ++ [begR E D t.toNat A.length] := by
  unfold begL
  rw [List.length_append, List.length_singleton, List.range_succ, List.map_append]
  congr 1
  · refine List.map_congr_left fun i hi => ?_
    rw [el_append_left (List.mem_range.1 hi)]
  · simp only [List.map_cons, List.map_nil]
    have := el_append_right (A := A) (B := [t]) (k := 0)
    rw [Nat.add_zero] at this
    rw [this]
    rfl
/-- The lists of a view are what the layers make of its rows. -/
def Cached (M : Mdl) (D H Hd L : Nat) (X : Vw) (A : List Int) : Prop := X.T = A ∧ (∀ l, l < L → X.K.getD l [] = keysR (layAt M l) D (rowsL M D H Hd A l)) ∧ ∀ l, l < L → X.V.getD l [] = valsR (layAt M l) D (rowsL M D H Hd A l)
theorem rowsL_snoc {M : Mdl} {D H Hd L : Nat} {X : Vw} {A : List Int} (h : Cached M D H Hd L X A) (t : Int) : ∀ l, l ≤ L → rowsL M D H Hd (A ++ [t]) l = rowsL M D H Hd A l ++ [xRow M D H Hd A.length X.K X.V (begR M.E D t.toNat A.length) l]
  | 0, _ => begL_snoc M.E D A t
  | l + 1, hl => by
    have ih := rowsL_snoc h t l (by omega)
    show madeR (layAt M l) D H Hd (rowsL M D H Hd (A ++ [t]) l) = madeR (layAt M l) D H Hd (rowsL M D H Hd A l) ++ [oneR (layAt M l) D H Hd (xRow M D H Hd A.length X.K X.V (begR M.E D t.toNat A.length) l) (X.K.getD l []) (X.V.getD l []) A.length]
    rw [ih, madeR_snoc, rowsL_len, h.2.1 l (by omega), h.2.2 l (by omega)]
theorem cached_none (M : Mdl) (D H Hd L : Nat) : Cached M D H Hd L noX [] := by
  have e : ∀ l, rowsL M D H Hd [] l = [] := fun l => List.length_eq_zero_iff.1 (rowsL_len M D H Hd [] l)
  exact ⟨rfl, fun l _ => by rw [e]; rfl, fun l _ => by rw [e]; rfl⟩
theorem cached_feed {M : Mdl} {D H Hd L : Nat} {X : Vw} {A : List Int} (h : Cached M D H Hd L X A) {t : Int} (ht : 0 ≤ t) : Cached M D H Hd L (feedV M D H Hd L X t.toNat) (A ++ [t]) := by
  obtain ⟨rfl, h2, h3⟩ := h
  refine ⟨?_, fun l hl => ?_, fun l hl => ?_⟩
  · show X.T ++ [((t.toNat : Nat) : Int)] = X.T ++ [t]
    rw [Int.toNat_of_nonneg ht]
  · show (newK M D H Hd X.T.length L X.K X.V (begR M.E D t.toNat X.T.length)).getD l [] = _
    rw [newK_at _ _ _ _ _ _ _ _ _ hl, rowsL_snoc ⟨rfl, h2, h3⟩ t l (by omega), h2 l hl]
    unfold keysR
    rw [List.map_append]
    rfl
  · show (newV M D H Hd X.T.length L X.K X.V (begR M.E D t.toNat X.T.length)).getD l [] = _
    rw [newV_at _ _ _ _ _ _ _ _ _ hl, rowsL_snoc ⟨rfl, h2, h3⟩ t l (by omega), h3 l hl]
    unfold valsR
    rw [List.map_append]
    rfl
theorem cached_all {M : Mdl} {D H Hd L : Nat} (B : List Int) : ∀ {X : Vw} {A : List Int}, Cached M D H Hd L X A → (∀ x ∈ B, 0 ≤ x) → Cached M D H Hd L (feedAll M D H Hd L X B) (A ++ B) := by
  induction B with
  | nil => intro X A h _; rw [List.append_nil]; exact h
  | cons b B ih =>
    intro X A h hb
    have h1 := cached_feed h (hb b (List.mem_cons_self ..))
    have h2 := ih h1 fun x hx => hb x (List.mem_cons_of_mem _ hx)
    rw [List.append_assoc] at h2
    exact h2
theorem feedX_last {M : Mdl} {D H Hd L : Nat} {X : Vw} {A : List Int} (h : Cached M D H Hd L X A) (t : Int) : feedX M D H Hd L X t.toNat = rowOf (rowsL M D H Hd (A ++ [t]) L) A.length := by
  rw [rowsL_snoc h t L (Nat.le_refl _)]
  have := rowOf_last (rowsL M D H Hd A L) (xRow M D H Hd A.length X.K X.V (begR M.E D t.toNat A.length) L)
  rw [rowsL_len] at this
  rw [this]
  show xRow M D H Hd X.T.length X.K X.V (begR M.E D t.toNat X.T.length) L = _
  rw [h.1]
theorem fullX_last {M : Mdl} {V D H Hd L : Nat} {X : Vw} {A : List Int} (h : Cached M D H Hd L X A) (t : Int) : likR M V D (feedX M D H Hd L X t.toNat) = fullX M V D H Hd L (A ++ [t]) := by
  unfold fullX
  rw [feedX_last h t, List.length_append, List.length_singleton, Nat.add_sub_cancel]
end Go.Proofs.YthmpfmclbmhkfaaDoor

/- A model that was made fits, and reads as its seed's numbers. -/
namespace Go.Proofs.YthmpfmclbmhkfaaDoor
open Go.ChangeShapes Go.WideShapes Go.ChangeAt Go.RowKit
def layS (seed i D H : Nat) : Lay := ⟨gainR seed i D, numR seed (i + D) (D * D) 65536, numR seed (i + D + D * D) (D * D) 65536, numR seed (i + D + D * D + D * D) (D * D) 65536, numR seed (i + D + D * D + D * D + D * D) (D * D) 65536, gainR seed (i + D + D * D + D * D + D * D + D * D) D, numR seed (i + D + D * D + D * D + D * D + D * D + D) (H * D) 65536, numR seed (i + D + D * D + D * D + D * D + D * D + D + H * D) (D * H) 65536⟩
/-- The numbers of a seed. -/
def mdlS (seed V D H L : Nat) : Mdl := ⟨numR seed 0 (V * D) 131072, (List.range L).map fun t => layS seed (V * D + t * lenB D H) D H, gainR seed (V * D + L * lenB D H) D, numR seed (V * D + L * lenB D H + D) (V * D) 65536⟩
theorem Fresh.slAt {w : World} {B g n : Nat} {A : List Int} (h : Fresh w B g n n A) : SlAt w (rs g n) n A := ⟨rfl, h.arg⟩
theorem Fresh.mtAt {w : World} {B g r c : Nat} {A : List Int} (h : Fresh w B g (r * c) (r * c) A) (h1 : 1 ≤ r) (h2 : r ≤ 128) (h3 : 1 ≤ c) (h4 : c ≤ 128) : MtAt w ⟨r, c, rs g (r * c)⟩ r c A :=
  ⟨g, 0, r * c, r * c, rfl, h1, h2, h3, h4, rfl, Nat.le_refl _, h.max, h.rowAt⟩
theorem MadeB.bkAt {w : World} {B seed i D H f q k v o s u d : Nat} (h : MadeB w B seed i D H f q k v o s u d) (h1 : 1 ≤ D) (h2 : D ≤ 128) (h3 : 1 ≤ H) (h4 : H ≤ 128) : BkAt w D H (mkB D H f q k v o s u d) (layS seed i D H) :=
  ⟨h.f.slAt, h.q.mtAt h1 h2 h1 h2, h.k.mtAt h1 h2 h1 h2, h.v.mtAt h1 h2 h1 h2, h.o.mtAt h1 h2 h1 h2, h.s.slAt, h.u.mtAt h3 h4 h1 h2, h.d.mtAt h1 h2 h3 h4⟩
theorem made_good {w : World} {B seed V D Hd H L ge gB gl go : Nat} (h : MadeW w B seed V D H L ge gB gl go) (hs : shapeN V D Hd H L = 0) : ∃ bs, Good w V D Hd H L (mkW V D L ge gB gl go) bs (mdlS seed V D H L) := by
  have hk := shape_ok hs
  obtain ⟨bs, ML⟩ := madeL_of L h.bs
  have BL := ML.blocks (by omega) (by omega) (by omega)
  have hl : bs.length = L := ML.len
  refine ⟨bs, ⟨⟨?_, BL, by unfold mdlS; simp [hl], fun t x hx => ?_, ?_, ?_⟩, mkW_ok (by omega) (by omega), hl, hs, ?_⟩⟩
  · exact h.e.mtAt (by omega) (by omega) (by omega) (by omega)
  · obtain ⟨_, f, q, k, v, o, s, u, d, rfl, m⟩ := ML.at_ t x hx
    have ht : t < L := by rw [← hl]; exact (List.getElem?_eq_some_iff.1 hx).1
    refine ⟨layS seed (V * D + t * lenB D H) D H, ?_, m.bkAt (by omega) (by omega) (by omega) (by omega)⟩
    unfold mdlS
    simp only [List.getElem?_map, List.getElem?_range ht]
    rfl
  · exact h.l.slAt
  · exact h.o.mtAt (by omega) (by omega) (by omega) (by omega)
  · exact made_fits (C := ⟨V, D, Hd, H, L⟩) ML rfl rfl rfl rfl hs
end Go.Proofs.YthmpfmclbmhkfaaDoor

/- The awake check of the laws of layer 10 is true. -/
namespace Go.Proofs.YthmpfmclbmhkfaaDoor
open Go.ChangeShapes Go.WideShapes Go.ChangeAt Go.RowKit
theorem wt_one (W : Wt) : W.cells.all (·.oneCell') = true := by simp [Wt.cells, Sl.v, Value.oneCell']
theorem make_small (w : World) : Calls Tryd.prog 5 #[.agg #[.int .i64 2, .int .i64 1, .int .i64 1, .int .i64 1, .int .i64 1], .int .u64 1] w fun e w' => ∃ W bs M, e = .returned (.tuple #[.agg (Wt.cells W), .int .i64 0]) ∧ Good w' 2 1 1 1 1 W bs M ∧ Below w.heap.size w w' := by
  refine (make_any 2 1 1 1 1 1 w (by omega) (by decide)).mono ?_
  rintro e w' ⟨ge, gB, gl, go, rfl, M, B⟩
  obtain ⟨bs, G⟩ := made_good (Hd := 1) M (by decide)
  exact ⟨_, bs, _, rfl, G, B⟩
/-- An answer of one token. -/
theorem run_one {M : Mdl} {V D H Hd L : Nat} {P : List Int} {j : Nat} (h1 : overB (runS M V D H Hd L P j).Y 1 = true) (h2 : ∀ i, i < j → overB (runS M V D H Hd L P i).Y 1 = false) : j = 1 := by
  rcases Nat.lt_trichotomy j 1 with h | h | h
  · obtain rfl : j = 0 := by omega
    have e : (runS M V D H Hd L P 0).Y = [] := rfl
    rw [e] at h1
    exact absurd h1 (by decide)
  · exact h
  · have := over_not (h2 1 h)
    rw [runS_len] at this
    omega
end Go.Proofs.YthmpfmclbmhkfaaDoor
