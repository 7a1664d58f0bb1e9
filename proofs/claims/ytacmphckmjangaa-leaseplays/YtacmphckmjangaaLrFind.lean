/- The document's Find. Written by tools/genlr.py. -/
import Derived.Test.YtacmphckmjangaaLsBegin2
namespace Go.Proofs.Ytacmphckmjangaa
open Go.ChangeShapes Go.WideShapes Go.ChangeAt Go.RowKit Go.Maps
theorem belowA (w : World) (o : Obj) : Below w.heap.size w (w.alloc o) := (Below.refl _ w).alloc (Nat.le_refl _) o
theorem belowR {B g : Nat} {w0 w : World} (hb : Below B w0 w) (hg : B ≤ g) (cs : Array Value) : Below B w0 (w.setRow g cs) := below_row hb hg cs
theorem varR (W : World) (T : TypeId) (z R : Array Value) : Blk (W.alloc (.cells z T)) W.heap.size T z ∧ Blk ((W.alloc (.cells z T)).setRow W.heap.size R) W.heap.size T R ∧ Below W.heap.size W ((W.alloc (.cells z T)).setRow W.heap.size R) ∧ W.heap.size + 1 ≤ ((W.alloc (.cells z T)).setRow W.heap.size R).heap.size :=
  ⟨blk_new _ _ _, (blk_new W _ _).row _, belowR (belowA _ _) (Nat.le_refl _) _, by rw [setRow_size]; simp⟩
theorem KRow.stay {w w' : World} {B : Nat} {T : TypeId} {k : Nat} {v : Value} {R : List (List Int)} (h : KRow w B T k v R) (hb : ∀ g, v.ownBlock = some g → w'.heap[g]? = w.heap[g]?) : KRow w' B T k v R := by
  refine ⟨⟨h.own.1, ?_⟩, h.each⟩
  rcases h.own.2 with h2 | ⟨g', cap, cur, h3, h4, h5, h6⟩
  · exact Or.inl h2
  · exact Or.inr ⟨g', cap, cur, h3, h4, (hb g' (by rw [h3]; rfl)).trans h5, h6⟩
theorem KRow.off {w : World} {B : Nat} {T T' : TypeId} {k : Nat} {v : Value} {R : List (List Int)} {b : Nat} {cs : Array Value} (h : KRow w B T k v R) (hT : T ≠ T') (hx : Blk w b T' cs) : ∀ g, v.ownBlock = some g → g ≠ b := by
  intro g hg e
  rcases h.own.2 with ⟨h2, _⟩ | ⟨g', cap, cur, h3, h4, h5, h6⟩
  · rw [h2] at hg; cases hg
  · rw [h3] at hg
    injection hg with hg
    have hg' : g' = g := hg
    subst hg'
    unfold Blk at hx
    rw [← e, h5] at hx
    injection hx with hx
    injection hx with h7 h8
    exact hT h8
theorem KRow.ownlt {w : World} {B : Nat} {T : TypeId} {k : Nat} {v : Value} {R : List (List Int)} (h : KRow w B T k v R) : ∀ g, v.ownBlock = some g → B ≤ g ∧ g < w.heap.size := fun g hg => h.own.lt g hg
def Rh.el' (x : Int) (o : Option Hg) : Value := match o with
  | some v => .agg #[.int .i64 x, .int .i64 v.hol, .int .i64 v.epo, .int .i64 v.unt]
  | none => .agg #[.int .i64 0, .int .i64 0, .int .i64 0, .int .i64 0]
theorem load_rh {w : World} {g : Nat} {a b c d : Value} (h : Blk w g 33 #[a, b, c, d]) : (loadVar 33 ⟨g, 0, none⟩).run Try.prog w = .ok (.agg #[a, b, c, d]) w :=
  run_loadVar_row w g _ _ _ _ _ h Try.underlying33 rfl Try.infoRhS
theorem rallL (ep q : Int) (a : Option Addr) (n c : Nat) : Array.all (#[.int .i64 ep, .int .i64 q, .slice a n c] : Array Value) (fun v => v.oneCell') = true := by simp [Value.oneCell']
theorem HRow.cells {w : World} {B : Nat} {ao : Option Addr} {n c : Nat} {R : List (Int × Hg)} (h : HRow w B (.slice ao n c) R) {j : Nat} (hj : j < R.length) :
    ∃ g, ao = some ⟨g, 0, none⟩ ∧ g < w.heap.size ∧ w.cell? ⟨g, j * 4, none⟩ = some (.int .i64 R[j].1) ∧ w.cell? ⟨g, j * 4 + 1, none⟩ = some (.int .i64 R[j].2.hol) ∧ w.cell? ⟨g, j * 4 + 2, none⟩ = some (.int .i64 R[j].2.epo) ∧ w.cell? ⟨g, j * 4 + 3, none⟩ = some (.int .i64 R[j].2.unt) := by
  rcases KRow.cases h with ⟨_, e0⟩ | ⟨g, cap, e0, hg1, hg2, hle, hcm, hcell⟩
  · rw [List.map_eq_nil_iff] at e0
    rw [e0] at hj
    exact absurd hj (Nat.not_lt_zero _)
  · injection e0 with e1 e2 e3
    have hc := fun k hk => hcell j k (by rw [List.length_map]; exact hj) hk
    rw [hrow_get hj] at hc
    exact ⟨g, e1, hg2, hc 0 (by omega), hc 1 (by omega), hc 2 (by omega), hc 3 (by omega)⟩
theorem HRow.shape {w : World} {B : Nat} {v : Value} {R : List (Int × Hg)} (h : HRow w B v R) : ∃ ao c, v = .slice ao R.length c := by
  obtain ⟨ao, c, e, _⟩ := KRow.len h
  rw [List.length_map] at e
  exact ⟨ao, c, e⟩
theorem who_at {R : List (Int × Hg)} {now x : Int} {j : Nat} (ha : R.Pairwise (fun p q => p.1 ≠ q.1)) (hlt : j < R.length) (e : R[j].1 = x) (hu : now < R[j].2.unt) : whoL now R x = some R[j].2 := by
  have h : getM R x = some R[j].2 := getM_of_mem ha (by rw [← e]; exact List.getElem_mem hlt)
  unfold whoL
  rw [h]
  exact if_pos hu
theorem who_no {R : List (Int × Hg)} {now x : Int} (h : ∀ y ∈ R, ¬ (y.1 = x ∧ now < y.2.unt)) : whoL now R x = none := by
  unfold whoL
  rcases hg : getM R x with _ | v
  · rfl
  · exact if_neg (fun hu => h _ (getM_mem hg) ⟨rfl, hu⟩)
set_option maxRecDepth 100000 in
set_option maxHeartbeats 8000000 in
theorem rfind_any (ep q now x : Int) (ao : Option Addr) (c B : Nat) (R : List (Int × Hg)) (w : World) (hR : HRow w B (.slice ao R.length c) R) (ha : R.Pairwise (fun p q => p.1 ≠ q.1)) (hl : R.length ≤ 100000) :
   Calls Try.prog 18 #[.agg #[.int .i64 ep, .int .i64 q, .slice ao R.length c], .int .i64 now, .int .i64 x] w fun e w' => e = .returned (.tuple #[Rh.el' x (whoL now R x), .bool (whoL now R x).isSome]) ∧ Below w.heap.size w w' := by
  have X0 := blk_new w 28 #[.int .i64 ep, .int .i64 q, .slice ao R.length c]
  have B0 := belowA w (.cells #[.int .i64 ep, .int .i64 q, .slice ao R.length c] 28)
  have s0 : (w.alloc (.cells #[.int .i64 ep, .int .i64 q, .slice ao R.length c] 28)).heap.size = w.heap.size + 1 := by simp
  generalize hw0 : w.alloc (.cells #[.int .i64 ep, .int .i64 q, .slice ao R.length c] 28) = w0 at *
  have X1 := blk_new w0 33 #[.int .i64 0, .int .i64 0, .int .i64 0, .int .i64 0]
  have B1 := belowA w0 (.cells #[.int .i64 0, .int .i64 0, .int .i64 0, .int .i64 0] 33)
  have s1 : (w0.alloc (.cells #[.int .i64 0, .int .i64 0, .int .i64 0, .int .i64 0] 33)).heap.size = w.heap.size + 1 + 1 := by simp [s0]
  have X01 := X0.below B1
  rw [s0] at X1
  generalize hw1 : w0.alloc (.cells #[.int .i64 0, .int .i64 0, .int .i64 0, .int .i64 0] 33) = w1 at *
  have k1 : w1.cell? ⟨w.heap.size, 2, none⟩ = some (.slice ao R.length c) := X01.cell 2 rfl
  have HB : Hid (Below w.heap.size w w1) := below_then B0 B1
  have z1 : w.heap.size + 1 + 1 ≤ w1.heap.size := by omega
  have R1 : HRow w1 B (.slice ao R.length c) R := KRow.below (KRow.below hR B0) B1
  clear hR B0 B1 s1
  go_enter Try.func18, Try.ntmps18
  go_wp2_with fail
  go_loopg [13] R.length (fun gg s13 wr => ∃ j : Nat, j ≤ R.length ∧ gg = R.length - j ∧ s13 = .int .i64 (j : Int) ∧ (∀ y ∈ R.take j, ¬ (y.1 = x ∧ now < y.2.unt)) ∧ Below w1.heap.size w1 wr)
  case atStart => exact ⟨0, by omega, by omega, rfl, by simp, Below.refl _ _⟩
  case round =>
  obtain ⟨j, hj, rfl, rfl, hno, BX⟩ := hrel
  have zx := BX.size
  rcases Nat.lt_or_ge j R.length with hlt | hge
  · have d5 : (j : Int) < (R.length : Int) := by omega
    obtain ⟨g, rfl, hg, y0, y1, y2, y3⟩ := HRow.cells (KRow.below R1 BX) hlt
    have EA : R[j].1 = x → now < R[j].2.unt → whoL now R x = some R[j].2 := who_at ha hlt
    have EN : ¬ (R[j].1 = x ∧ now < R[j].2.unt) → ∀ y ∈ R.take (j + 1), ¬ (y.1 = x ∧ now < y.2.unt) := fun h y hy => by
      rw [List.take_succ_eq_append_getElem hlt] at hy
      rcases List.mem_append.1 hy with h1 | h1
      · exact hno y h1
      · simp only [List.mem_singleton] at h1
        rw [h1]; exact h
    obtain ⟨⟨yp, yh, ye, yu⟩, hy⟩ : ∃ y : Int × Hg, y = R[j] := ⟨_, rfl⟩
    rw [← hy] at y0 y1 y2 y3 EA EN
    simp only at y0 y1 y2 y3 EA EN
    have HA : Hid (yp = x → now < yu → whoL now R x = some ⟨yh, ye, yu⟩) := EA
    have HN : Hid (¬ (yp = x ∧ now < yu) → ∀ y ∈ R.take (j + 1), ¬ (y.1 = x ∧ now < y.2.unt)) := EN
    obtain ⟨XAy, XBy, BBy, sy⟩ := varR wr 33 #[.int .i64 0, .int .i64 0, .int .i64 0, .int .i64 0] #[.int .i64 yp, .int .i64 yh, .int .i64 ye, .int .i64 yu]
    have X1r := X1.below BX
    generalize hwC : wr.alloc (.cells #[.int .i64 0, .int .i64 0, .int .i64 0, .int .i64 0] 33) = wC at *
    generalize hwD : wC.setRow wr.heap.size #[.int .i64 yp, .int .i64 yh, .int .i64 ye, .int .i64 yu] = wD at *
    have v0 : wD.cell? ⟨wr.heap.size, 0, none⟩ = some (.int .i64 yp) := XBy.cell 0 rfl
    have v3 : wD.cell? ⟨wr.heap.size, 3, none⟩ = some (.int .i64 yu) := XBy.cell 3 rfl
    have X1D := X1r.below BBy
    clear hy EA EN hno hg
    by_cases hyp : yp = x
    · have HY : Hid (yp = x) := hyp
      have hyd : (yp == x) = true := by simp [hyp]
      clear hyp
      by_cases hu : now < yu
      · go_wp2_with (first
          | (refine wpList_store_row rfl 33 _ _ rfl wr.heap.size _ rfl rfl 33 _ XAy Try.infoRhS rfl (hall4 _ _ _ _) ?_; rw [hwD])
          | (refine wpList_load_row rfl 33 _ rfl wr.heap.size rfl 33 _ (0, 0) _ XBy Try.underlying33 rfl Try.infoRhS ?_)
          | (refine wpList_store_row rfl 33 _ _ rfl (w.heap.size + 1) _ rfl rfl 33 _ X1D Try.infoRhS rfl (hall4 _ _ _ _) ?_))
        refine bodyPost_ret (results_blk2 rfl _ _ (w.heap.size + 1) _ rfl (load_rh (X1D.row _))) rfl ?_
        exact ⟨by rw [HA.out HY.out hu, ← HY.out]; rfl, belowR (below_then (below_then HB.out BX) BBy) (by omega) _⟩
      · go_wp2_with (refine wpList_store_row rfl 33 _ _ rfl wr.heap.size _ rfl rfl 33 _ XAy Try.infoRhS rfl (hall4 _ _ _ _) ?_; rw [hwD])
        go_roundg (R.length - (j + 1))
        case measure => omega
        case rel => exact ⟨j + 1, by omega, rfl, by go_num, HN.out (fun h => by have := h.2; omega), below_then BX BBy⟩
    · have hyd : (yp == x) = false := by simpa using hyp
      go_wp2_with (refine wpList_store_row rfl 33 _ _ rfl wr.heap.size _ rfl rfl 33 _ XAy Try.infoRhS rfl (hall4 _ _ _ _) ?_; rw [hwD])
      go_roundg (R.length - (j + 1))
      case measure => omega
      case rel => exact ⟨j + 1, by omega, rfl, by go_num, HN.out (fun h => hyp h.1), below_then BX BBy⟩
  · obtain rfl : j = R.length := by omega
    have X1r := X1.below BX
    have HN : Hid (whoL now R x = none) := who_no (by rw [List.take_length] at hno; exact hno)
    clear hno
    go_wp2_with (refine wpList_store_row rfl 33 _ _ rfl (w.heap.size + 1) _ rfl rfl 33 _ X1r Try.infoRhS rfl (hall4 _ _ _ _) ?_)
    refine bodyPost_ret (results_blk2 rfl _ _ (w.heap.size + 1) _ rfl (load_rh (X1r.row _))) rfl ?_
    exact ⟨by rw [HN.out]; rfl, belowR (below_then HB.out BX) (by omega) _⟩
end Go.Proofs.Ytacmphckmjangaa
