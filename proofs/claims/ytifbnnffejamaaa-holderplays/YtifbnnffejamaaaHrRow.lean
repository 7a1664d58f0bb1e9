/- The document's rows of wants and of leases: what is found in them, and what is left without one. Written by tools/genhrow.py. -/
import Derived.Test.YtifbnnffejamaaaHdAwake
import Derived.Test.YtifbnnffejamaaaRowK
namespace Go.Proofs.Ytifbnnffejamaaa
open Go.ChangeShapes Go.WideShapes Go.ChangeAt Go.RowKit Go.Maps
theorem Try.infoRsH : (Try.prog.info? 30).map (·.size) = some 4 := by kernel_rfl
/-- The document's state as a value. -/
def rsV (li cn : Int) (vw vh : Value) : Value := .agg #[.int .i64 li, .int .i64 cn, vw, vh]
theorem rall (li cn : Int) (a b : Option Addr) (m n c d : Nat) : Array.all (#[.int .i64 li, .int .i64 cn, .slice a m c, .slice b n d] : Array Value) (fun v => v.oneCell') = true := by simp [Value.oneCell']
theorem tall (a b c : Int) : Array.all (#[.int .i64 a, .int .i64 b, .int .i64 c] : Array Value) (fun v => v.oneCell') = true := by simp [Value.oneCell']
theorem load_rs {w : World} {g : Nat} {a b c d : Value} (h : Blk w g 30 #[a, b, c, d]) : (loadVar 30 ⟨g, 0, none⟩).run Try.prog w = .ok (.agg #[a, b, c, d]) w :=
  run_loadVar_row w g _ _ _ _ _ h Try.underlying30 rfl Try.infoRsH
theorem getM_at {α : Type} {R : List (Int × α)} {x : Int} {j : Nat} (hlt : j < R.length) (h : ∀ y ∈ R.take j, y.1 ≠ x) (e : R[j].1 = x) : getM R x = some R[j].2 := by
  unfold getM
  have hs : R = R.take j ++ R[j] :: R.drop (j + 1) := by rw [List.getElem_cons_drop]; exact (List.take_append_drop j R).symm
  have h1 : (R.take j).find? (fun p => decide (p.1 = x)) = none := List.find?_eq_none.2 (fun y hy => by simpa using h y hy)
  have h2 : R.find? (fun p => decide (p.1 = x)) = some R[j] := by
    conv => lhs; rw [hs]
    rw [List.find?_append, h1, List.find?_cons]
    simp [e]
  rw [h2]; rfl
theorem getM_no {α : Type} {R : List (Int × α)} {x : Int} (h : ∀ y ∈ R, y.1 ≠ x) : getM R x = none := by
  unfold getM
  rw [List.find?_eq_none.2 (fun y hy => by simpa using h y hy)]
  rfl
theorem delM_next {α : Type} {R : List (Int × α)} {x : Int} {j : Nat} (hlt : j < R.length) : delM (R.take (j + 1)) x = if R[j].1 = x then delM (R.take j) x else delM (R.take j) x ++ [R[j]] := by
  unfold delM
  rw [List.take_succ_eq_append_getElem hlt, List.filter_append]
  by_cases h : R[j].1 = x
  · rw [if_pos h]; simp [h]
  · rw [if_neg h]; simp [h]
theorem tvar (T : TypeId) (W : World) (a b c : Int) : Blk (W.alloc (.cells #[.int .i64 0, .int .i64 0, .int .i64 0] T)) W.heap.size T #[.int .i64 0, .int .i64 0, .int .i64 0] ∧
    Blk ((W.alloc (.cells #[.int .i64 0, .int .i64 0, .int .i64 0] T)).setRow W.heap.size #[.int .i64 a, .int .i64 b, .int .i64 c]) W.heap.size T #[.int .i64 a, .int .i64 b, .int .i64 c] ∧
    Below W.heap.size W ((W.alloc (.cells #[.int .i64 0, .int .i64 0, .int .i64 0] T)).setRow W.heap.size #[.int .i64 a, .int .i64 b, .int .i64 c]) ∧
    W.heap.size + 1 ≤ ((W.alloc (.cells #[.int .i64 0, .int .i64 0, .int .i64 0] T)).setRow W.heap.size #[.int .i64 a, .int .i64 b, .int .i64 c]).heap.size :=
  ⟨blk_new _ _ _, (blk_new W _ _).row _, belowR (belowA _ _) (Nat.le_refl _) _, by rw [setRow_size]; simp⟩
theorem cells3 (T : TypeId) (w : World) (a b c : Int) : ∀ j, j < 3 → (w.alloc (.cells #[.int .i64 a, .int .i64 b, .int .i64 c] T)).cell? ⟨w.heap.size, j, none⟩ = some (.int .i64 ([a, b, c].getD j 0)) := fun j hj => by
  have h := blk_new w T #[.int .i64 a, .int .i64 b, .int .i64 c]
  match j, hj with
  | 0, _ => exact h.cell 0 rfl
  | 1, _ => exact h.cell 1 rfl
  | 2, _ => exact h.cell 2 rfl
def cvWn (p : Int × Wn) : List Int := [p.1, p.2.num, p.2.tim]
/-- A row of the document's. -/
def WnR (w : World) (B : Nat) (v : Value) (R : List (Int × Wn)) : Prop := KRow w B 77 3 v (R.map cvWn)
def Wn.el (x : Int) (o : Option Wn) : Value := match o with
  | some v => .agg #[.int .i64 x, .int .i64 v.num, .int .i64 v.tim]
  | none => .agg #[.int .i64 0, .int .i64 0, .int .i64 0]
theorem Try.infoRWn : (Try.prog.info? 77).map (fun i => (i.zero, i.size, i.bytes)) = some (some (.agg #[.int .i64 0, .int .i64 0, .int .i64 0]), 3, 8 * 3) := by kernel_rfl
theorem Try.infoRWnS : (Try.prog.info? 77).map (·.size) = some 3 := by kernel_rfl
theorem load_rWn {w : World} {g : Nat} {a b c : Value} (h : Blk w g 77 #[a, b, c]) : (loadVar 77 ⟨g, 0, none⟩).run Try.prog w = .ok (.agg #[a, b, c]) w :=
  run_loadVar_row w g _ _ _ _ _ h Try.underlying77 rfl Try.infoRWnS
theorem WnR.below {w w' : World} {B : Nat} {v : Value} {R : List (Int × Wn)} (h : WnR w B v R) (hb : Below w.heap.size w w') : WnR w' B v R := KRow.below h hb
/-- Where an element lies. -/
theorem WnR.cells {w : World} {B : Nat} {ao : Option Addr} {n c : Nat} {R : List (Int × Wn)} (h : WnR w B (.slice ao n c) R) {j : Nat} (hj : j < R.length) :
    ∃ g, ao = some ⟨g, 0, none⟩ ∧ g < w.heap.size ∧ w.cell? ⟨g, j * 3, none⟩ = some (.int .i64 R[j].1) ∧ w.cell? ⟨g, j * 3 + 1, none⟩ = some (.int .i64 R[j].2.num) ∧ w.cell? ⟨g, j * 3 + 2, none⟩ = some (.int .i64 R[j].2.tim) := by
  rcases KRow.cases h with ⟨_, e0⟩ | ⟨g, cap, e0, hg1, hg2, hle, hcm, hcell⟩
  · rw [List.map_eq_nil_iff] at e0
    rw [e0] at hj
    exact absurd hj (Nat.not_lt_zero _)
  · injection e0 with e1 e2 e3
    have hc := fun k hk => hcell j k (by rw [List.length_map]; exact hj) hk
    have eg : (R.map cvWn).getD j [] = cvWn R[j] := by simp [List.getD_eq_getElem?_getD, hj]
    rw [eg] at hc
    exact ⟨g, e1, hg2, hc 0 (by omega), hc 1 (by omega), hc 2 (by omega)⟩
theorem WnR.shape {w : World} {B : Nat} {v : Value} {R : List (Int × Wn)} (h : WnR w B v R) : ∃ ao c, v = .slice ao R.length c := by
  obtain ⟨ao, c, e, _⟩ := KRow.len h
  rw [List.length_map] at e
  exact ⟨ao, c, e⟩
set_option maxRecDepth 100000 in
set_option maxHeartbeats 8000000 in
theorem rWanted_any (li cn x : Int) (ao bo : Option Addr) (c nn dd B : Nat) (R : List (Int × Wn)) (w : World) (hR : WnR w B (.slice ao R.length c) R) (hl : R.length ≤ 100000) :
   Calls Try.prog 28 #[rsV li cn (.slice ao R.length c) (.slice bo nn dd), .int .i64 x] w fun e w' => e = .returned (.tuple #[Wn.el x (getM R x), .bool (getM R x).isSome]) ∧ Below w.heap.size w w' := by
  unfold rsV
  have X0 := blk_new w 30 #[.int .i64 li, .int .i64 cn, .slice ao R.length c, .slice bo nn dd]
  have B0 := belowA w (.cells #[.int .i64 li, .int .i64 cn, .slice ao R.length c, .slice bo nn dd] 30)
  have s0 : (w.alloc (.cells #[.int .i64 li, .int .i64 cn, .slice ao R.length c, .slice bo nn dd] 30)).heap.size = w.heap.size + 1 := by simp
  generalize hw0 : w.alloc (.cells #[.int .i64 li, .int .i64 cn, .slice ao R.length c, .slice bo nn dd] 30) = w0 at *
  have X1 := blk_new w0 77 #[.int .i64 0, .int .i64 0, .int .i64 0]
  have B1 := belowA w0 (.cells #[.int .i64 0, .int .i64 0, .int .i64 0] 77)
  have s1 : (w0.alloc (.cells #[.int .i64 0, .int .i64 0, .int .i64 0] 77)).heap.size = w.heap.size + 1 + 1 := by simp [s0]
  have X01 := X0.below B1
  rw [s0] at X1
  generalize hw1 : w0.alloc (.cells #[.int .i64 0, .int .i64 0, .int .i64 0] 77) = w1 at *
  have k1 : w1.cell? ⟨w.heap.size, 2, none⟩ = some (.slice ao R.length c) := X01.cell 2 rfl
  have HB : Hid (Below w.heap.size w w1) := below_then B0 B1
  have HS : Hid (w1.heap.size = w.heap.size + 1 + 1) := s1
  have z1 : w.heap.size + 1 + 1 ≤ w1.heap.size := by omega
  have R1 := (hR.below B0).below B1
  clear hR B0 B1 s1
  go_enter Try.func28, Try.ntmps28
  go_wp2_with fail
  go_loopg [11] R.length (fun gg s11 wr => ∃ j : Nat, j ≤ R.length ∧ gg = R.length - j ∧ s11 = .int .i64 (j : Int) ∧ (∀ y ∈ R.take j, y.1 ≠ x) ∧ Below w1.heap.size w1 wr)
  case atStart => exact ⟨0, by omega, by omega, rfl, by simp, Below.refl _ _⟩
  case round =>
  obtain ⟨j, hj, rfl, rfl, hno, BX⟩ := hrel
  have zx := BX.size
  rcases Nat.lt_or_ge j R.length with hlt | hge
  · have d5 : (j : Int) < (R.length : Int) := by omega
    obtain ⟨g, rfl, hg, y0, y1, y2⟩ := (R1.below BX).cells hlt
    have EA : R[j].1 = x → getM R x = some R[j].2 := getM_at hlt hno
    have EN : R[j].1 ≠ x → ∀ y ∈ R.take (j + 1), y.1 ≠ x := fun h y hy => by
      rw [List.take_succ_eq_append_getElem hlt] at hy
      rcases List.mem_append.1 hy with h1 | h1
      · exact hno y h1
      · simp only [List.mem_singleton] at h1
        rw [h1]; exact h
    obtain ⟨⟨yp, ya, yb⟩, hy⟩ : ∃ y : Int × Wn, y = R[j] := ⟨_, rfl⟩
    rw [← hy] at y0 y1 y2 EA EN
    simp only at y0 y1 y2 EA EN
    have HA : Hid (yp = x → getM R x = some ⟨ya, yb⟩) := EA
    have HN : Hid (yp ≠ x → ∀ y ∈ R.take (j + 1), y.1 ≠ x) := EN
    obtain ⟨XAy, XBy, BBy, sy⟩ := tvar 77 wr yp ya yb
    have X1r := X1.below BX
    generalize hwC : wr.alloc (.cells #[.int .i64 0, .int .i64 0, .int .i64 0] 77) = wC at *
    generalize hwD : wC.setRow wr.heap.size #[.int .i64 yp, .int .i64 ya, .int .i64 yb] = wD at *
    have v0 : wD.cell? ⟨wr.heap.size, 0, none⟩ = some (.int .i64 yp) := XBy.cell 0 rfl
    have X1D := X1r.below BBy
    clear hy EA EN hno hg
    by_cases hyp : yp = x
    · have HY : Hid (yp = x) := hyp
      have hyd : (yp == x) = true := by simp [hyp]
      clear hyp
      go_wp2_with (first
        | (refine wpList_store_row rfl 77 _ _ rfl wr.heap.size _ rfl rfl 77 _ XAy Try.infoRWnS rfl (tall _ _ _) ?_; rw [hwD])
        | (refine wpList_load_row rfl 77 _ rfl wr.heap.size rfl 77 _ (0, 0) _ XBy Try.underlying77 rfl Try.infoRWnS ?_)
        | (refine wpList_store_row rfl 77 _ _ rfl (w.heap.size + 1) _ rfl rfl 77 _ X1D Try.infoRWnS rfl (tall _ _ _) ?_))
      refine bodyPost_ret (results_s2 rfl _ _ (w.heap.size + 1) _ rfl (load_rWn (X1D.row _))) rfl ?_
      exact ⟨by rw [HA.out HY.out, ← HY.out]; rfl, belowR (below_then (below_then HB.out BX) BBy) (by omega) _⟩
    · have hyd : (yp == x) = false := by simpa using hyp
      go_wp2_with (refine wpList_store_row rfl 77 _ _ rfl wr.heap.size _ rfl rfl 77 _ XAy Try.infoRWnS rfl (tall _ _ _) ?_; rw [hwD])
      go_roundg (R.length - (j + 1))
      case measure => omega
      case rel => exact ⟨j + 1, by omega, rfl, by go_num, HN.out hyp, below_then BX BBy⟩
  · obtain rfl : j = R.length := by omega
    have X1r := X1.below BX
    have HN : Hid (getM R x = none) := getM_no (by rw [List.take_length] at hno; exact hno)
    clear hno
    go_wp2_with (refine wpList_store_row rfl 77 _ _ rfl (w.heap.size + 1) _ rfl rfl 77 _ X1r Try.infoRWnS rfl (tall _ _ _) ?_)
    refine bodyPost_ret (results_s2 rfl _ _ (w.heap.size + 1) _ rfl (load_rWn (X1r.row _))) rfl ?_
    exact ⟨by rw [HN.out]; rfl, belowR (below_then HB.out BX) (by omega) _⟩
set_option maxRecDepth 100000 in
set_option maxHeartbeats 8000000 in
theorem runwant_any (li cn x : Int) (ao bo : Option Addr) (c nn dd B : Nat) (R : List (Int × Wn)) (w : World) (hR : WnR w B (.slice ao R.length c) R) (hl : R.length ≤ 100000) :
   Calls Try.prog 25 #[rsV li cn (.slice ao R.length c) (.slice bo nn dd), .int .i64 x] w fun e w' => ∃ v', e = .returned (rsV li cn v' (.slice bo nn dd)) ∧ WnR w' w.heap.size v' (delM R x) ∧ Below w.heap.size w w' := by
  unfold rsV
  have X0 := blk_new w 30 #[.int .i64 li, .int .i64 cn, .slice ao R.length c, .slice bo nn dd]
  have B0 := belowA w (.cells #[.int .i64 li, .int .i64 cn, .slice ao R.length c, .slice bo nn dd] 30)
  have s0 : (w.alloc (.cells #[.int .i64 li, .int .i64 cn, .slice ao R.length c, .slice bo nn dd] 30)).heap.size = w.heap.size + 1 := by simp
  generalize hw0 : w.alloc (.cells #[.int .i64 li, .int .i64 cn, .slice ao R.length c, .slice bo nn dd] 30) = w0 at *
  have X1 := blk_new w0 30 #[.int .i64 0, .int .i64 0, .slice none 0 0, .slice none 0 0]
  have B1 := belowA w0 (.cells #[.int .i64 0, .int .i64 0, .slice none 0 0, .slice none 0 0] 30)
  have s1 : (w0.alloc (.cells #[.int .i64 0, .int .i64 0, .slice none 0 0, .slice none 0 0] 30)).heap.size = w.heap.size + 1 + 1 := by simp [s0]
  have X01 := X0.below B1
  rw [s0] at X1
  generalize hw1 : w0.alloc (.cells #[.int .i64 0, .int .i64 0, .slice none 0 0, .slice none 0 0] 30) = w1 at *
  have R1 := (hR.below B0).below B1
  have O2 := KRow.new w1 77 3
  have B2 := belowA w1 (.cells #[] 77)
  have X02 := X01.below B2
  have X12 := X1.below B2
  have z2 : w1.heap.size + 1 ≤ (w1.alloc (.cells #[] 77)).heap.size := by simp
  generalize hw2 : w1.alloc (.cells #[] 77) = w2 at *
  have k2 : w2.cell? ⟨w.heap.size, 2, none⟩ = some (.slice ao R.length c) := X02.cell 2 rfl
  have HB : Hid (Below w.heap.size w w2 ∧ Below w1.heap.size w1 w2) := ⟨below_then (below_then B0 B1) B2, B2⟩
  clear hR B0 B1 B2
  go_enter Try.func25, Try.ntmps25
  go_wp2_with fail
  go_loopg [5, 12] R.length (fun gg s5 s12 wr => ∃ j : Nat, j ≤ R.length ∧ gg = R.length - j ∧ s12 = .int .i64 (j : Int) ∧ KRow wr w1.heap.size 77 3 s5 ((delM (R.take j) x).map cvWn) ∧ Below w1.heap.size w2 wr ∧ w1.heap.size + 1 ≤ wr.heap.size)
  case atStart => exact ⟨0, by omega, by omega, rfl, by rw [← s1]; exact O2, Below.refl _ _, z2⟩
  case round =>
  obtain ⟨j, hj, rfl, rfl, OX, BX, zX⟩ := hrel
  rcases Nat.lt_or_ge j R.length with hlt | hge
  · have d5 : (j : Int) < (R.length : Int) := by omega
    have BW : Below w1.heap.size w1 wr := HB.out.2.trans BX
    obtain ⟨g, rfl, hg, y0, y1, y2⟩ := (R1.below BW).cells hlt
    have E0 := delM_next (x := x) hlt
    have hln := List.length_filter_le (fun p : Int × Wn => decide (p.1 ≠ x)) (R.take j)
    rw [List.length_take] at hln
    have hln2 : ((delM (R.take j) x).map cvWn).length ≤ 100000 := by rw [List.length_map]; unfold delM; omega
    obtain ⟨⟨yp, ya, yb⟩, hy⟩ : ∃ y : Int × Wn, y = R[j] := ⟨_, rfl⟩
    rw [← hy] at y0 y1 y2 E0
    simp only at y0 y1 y2 E0
    have HE : Hid (delM (R.take (j + 1)) x = if yp = x then delM (R.take j) x else delM (R.take j) x ++ [(yp, ⟨ya, yb⟩)]) := E0
    generalize delM (R.take j) x = acc at *
    obtain ⟨XAy, XBy, BBy, sy⟩ := tvar 77 wr yp ya yb
    generalize hwC : wr.alloc (.cells #[.int .i64 0, .int .i64 0, .int .i64 0] 77) = wC at *
    generalize hwD : wC.setRow wr.heap.size #[.int .i64 yp, .int .i64 ya, .int .i64 yb] = wD at *
    have v0 : wD.cell? ⟨wr.heap.size, 0, none⟩ = some (.int .i64 yp) := XBy.cell 0 rfl
    have OD := KRow.below OX BBy
    have BBD : Below w1.heap.size wr wD := BBy.mono (by omega)
    clear hy E0 hg hln BW
    by_cases hyp : yp = x
    · have HY : Hid (yp = x) := hyp
      have hyd : (yp == x) = true := by simp [hyp]
      clear hyp
      go_wp2_with (refine wpList_store_row rfl 77 _ _ rfl wr.heap.size _ rfl rfl 77 _ XAy Try.infoRWnS rfl (tall _ _ _) ?_; rw [hwD])
      go_roundg (R.length - (j + 1))
      case measure => omega
      case rel => exact ⟨j + 1, by omega, rfl, by go_num, by rw [HE.out, if_pos HY.out]; exact OD, BX.trans BBD, by omega⟩
    · have hyd : (yp == x) = false := by simpa using hyp
      have OE := KRow.below OD (belowA wD (.cells #[.int .i64 yp, .int .i64 ya, .int .i64 yb] 77))
      go_wp2_with (first
        | (refine wpList_store_row rfl 77 _ _ rfl wr.heap.size _ rfl rfl 77 _ XAy Try.infoRWnS rfl (tall _ _ _) ?_; rw [hwD])
        | (refine wpList_load_row rfl 77 _ rfl wr.heap.size rfl 77 _ (0, 0) _ XBy Try.underlying77 rfl Try.infoRWnS ?_)
        | (at_builtin; refine wpList_append_k rfl _ _ 77 27 3 _ Try.underlying27 Try.infoRWn rfl (by omega) (by omega) rfl w1.heap.size _ _ rfl OE wD.heap.size [yp, ya, yb] rfl rfl (cells3 77 wD yp ya yb) hln2 (by simp; omega) ?_; intro v8 w8 O8 B8 _))
      go_roundg (R.length - (j + 1))
      case measure => omega
      case rel =>
        refine ⟨j + 1, by omega, rfl, by go_num, by rw [HE.out, if_neg hyp, List.map_append]; exact O8, BX.trans ((BBD.alloc (by omega) (.cells #[.int .i64 yp, .int .i64 ya, .int .i64 yb] 77)).trans B8), by have := B8.size; simp at this; omega⟩
  · obtain rfl : j = R.length := by omega
    rw [List.take_length] at OX
    obtain ⟨a5, c5, h5, _⟩ := KRow.len OX
    obtain ⟨n5, hn5⟩ : ∃ n5, n5 = ((delM R x).map cvWn).length := ⟨_, rfl⟩
    rw [← hn5] at h5
    subst h5
    clear hn5
    have X0r := X02.of_block (BX.block _ (by omega))
    have X1r := X12.of_block (BX.block _ (by omega))
    have kr : wr.cell? ⟨w.heap.size, 2, none⟩ = some (.slice ao R.length c) := X0r.cell 2 rfl
    have fr := X0r.frozen 2
    have X0s := X0r.set 2 (.slice a5 n5 c5)
    have X1s := X1r.other (a := ⟨w.heap.size, 2, none⟩) (by simp) (.slice a5 n5 c5)
    go_wp2_with (first
      | (refine wpList_load_row rfl 30 _ rfl w.heap.size rfl 30 _ (0, 0) _ X0s Try.underlying30 rfl Try.infoRsH ?_)
      | (refine wpList_store_row rfl 30 _ _ rfl (w.heap.size + 1) _ rfl rfl 30 _ X1s Try.infoRsH rfl (rall _ _ _ _ _ _ _ _) ?_))
    refine bodyPost_ret (results_cell_row rfl _ _ (w.heap.size + 1) 30 _ _ _ rfl (X1s.row _) Try.underlying30 rfl Try.infoRsH) rfl ?_
    refine ⟨.slice a5 n5 c5, rfl, ?_, ?_⟩
    · refine KRow.base (KRow.of_block OX (fun g hg hl => ?_)) (show w.heap.size ≤ w1.heap.size by omega)
      rw [setRow_other _ _ _ _ (by omega), Below.heap_setCell _ _ _ _ (by show g ≠ w.heap.size; omega)]
    · exact belowR (((HB.out.1.trans (BX.mono (by omega))).setCell (p := ⟨w.heap.size, 2, none⟩) (Nat.le_refl _) _)) (by omega) _
def cvHv (p : Int × Hv) : List Int := [p.1, p.2.epo, p.2.unt]
/-- A row of the document's. -/
def HvR (w : World) (B : Nat) (v : Value) (R : List (Int × Hv)) : Prop := KRow w B 85 3 v (R.map cvHv)
def Hv.el (x : Int) (o : Option Hv) : Value := match o with
  | some v => .agg #[.int .i64 x, .int .i64 v.epo, .int .i64 v.unt]
  | none => .agg #[.int .i64 0, .int .i64 0, .int .i64 0]
theorem Try.infoRHv : (Try.prog.info? 85).map (fun i => (i.zero, i.size, i.bytes)) = some (some (.agg #[.int .i64 0, .int .i64 0, .int .i64 0]), 3, 8 * 3) := by kernel_rfl
theorem Try.infoRHvS : (Try.prog.info? 85).map (·.size) = some 3 := by kernel_rfl
theorem load_rHv {w : World} {g : Nat} {a b c : Value} (h : Blk w g 85 #[a, b, c]) : (loadVar 85 ⟨g, 0, none⟩).run Try.prog w = .ok (.agg #[a, b, c]) w :=
  run_loadVar_row w g _ _ _ _ _ h Try.underlying85 rfl Try.infoRHvS
theorem HvR.below {w w' : World} {B : Nat} {v : Value} {R : List (Int × Hv)} (h : HvR w B v R) (hb : Below w.heap.size w w') : HvR w' B v R := KRow.below h hb
/-- Where an element lies. -/
theorem HvR.cells {w : World} {B : Nat} {ao : Option Addr} {n c : Nat} {R : List (Int × Hv)} (h : HvR w B (.slice ao n c) R) {j : Nat} (hj : j < R.length) :
    ∃ g, ao = some ⟨g, 0, none⟩ ∧ g < w.heap.size ∧ w.cell? ⟨g, j * 3, none⟩ = some (.int .i64 R[j].1) ∧ w.cell? ⟨g, j * 3 + 1, none⟩ = some (.int .i64 R[j].2.epo) ∧ w.cell? ⟨g, j * 3 + 2, none⟩ = some (.int .i64 R[j].2.unt) := by
  rcases KRow.cases h with ⟨_, e0⟩ | ⟨g, cap, e0, hg1, hg2, hle, hcm, hcell⟩
  · rw [List.map_eq_nil_iff] at e0
    rw [e0] at hj
    exact absurd hj (Nat.not_lt_zero _)
  · injection e0 with e1 e2 e3
    have hc := fun k hk => hcell j k (by rw [List.length_map]; exact hj) hk
    have eg : (R.map cvHv).getD j [] = cvHv R[j] := by simp [List.getD_eq_getElem?_getD, hj]
    rw [eg] at hc
    exact ⟨g, e1, hg2, hc 0 (by omega), hc 1 (by omega), hc 2 (by omega)⟩
theorem HvR.shape {w : World} {B : Nat} {v : Value} {R : List (Int × Hv)} (h : HvR w B v R) : ∃ ao c, v = .slice ao R.length c := by
  obtain ⟨ao, c, e, _⟩ := KRow.len h
  rw [List.length_map] at e
  exact ⟨ao, c, e⟩
set_option maxRecDepth 100000 in
set_option maxHeartbeats 8000000 in
theorem rHad_any (li cn x : Int) (ao bo : Option Addr) (c nn dd B : Nat) (R : List (Int × Hv)) (w : World) (hR : HvR w B (.slice ao R.length c) R) (hl : R.length ≤ 100000) :
   Calls Try.prog 29 #[rsV li cn (.slice bo nn dd) (.slice ao R.length c), .int .i64 x] w fun e w' => e = .returned (.tuple #[Hv.el x (getM R x), .bool (getM R x).isSome]) ∧ Below w.heap.size w w' := by
  unfold rsV
  have X0 := blk_new w 30 #[.int .i64 li, .int .i64 cn, .slice bo nn dd, .slice ao R.length c]
  have B0 := belowA w (.cells #[.int .i64 li, .int .i64 cn, .slice bo nn dd, .slice ao R.length c] 30)
  have s0 : (w.alloc (.cells #[.int .i64 li, .int .i64 cn, .slice bo nn dd, .slice ao R.length c] 30)).heap.size = w.heap.size + 1 := by simp
  generalize hw0 : w.alloc (.cells #[.int .i64 li, .int .i64 cn, .slice bo nn dd, .slice ao R.length c] 30) = w0 at *
  have X1 := blk_new w0 85 #[.int .i64 0, .int .i64 0, .int .i64 0]
  have B1 := belowA w0 (.cells #[.int .i64 0, .int .i64 0, .int .i64 0] 85)
  have s1 : (w0.alloc (.cells #[.int .i64 0, .int .i64 0, .int .i64 0] 85)).heap.size = w.heap.size + 1 + 1 := by simp [s0]
  have X01 := X0.below B1
  rw [s0] at X1
  generalize hw1 : w0.alloc (.cells #[.int .i64 0, .int .i64 0, .int .i64 0] 85) = w1 at *
  have k1 : w1.cell? ⟨w.heap.size, 3, none⟩ = some (.slice ao R.length c) := X01.cell 3 rfl
  have HB : Hid (Below w.heap.size w w1) := below_then B0 B1
  have HS : Hid (w1.heap.size = w.heap.size + 1 + 1) := s1
  have z1 : w.heap.size + 1 + 1 ≤ w1.heap.size := by omega
  have R1 := (hR.below B0).below B1
  clear hR B0 B1 s1
  go_enter Try.func29, Try.ntmps29
  go_wp2_with fail
  go_loopg [11] R.length (fun gg s11 wr => ∃ j : Nat, j ≤ R.length ∧ gg = R.length - j ∧ s11 = .int .i64 (j : Int) ∧ (∀ y ∈ R.take j, y.1 ≠ x) ∧ Below w1.heap.size w1 wr)
  case atStart => exact ⟨0, by omega, by omega, rfl, by simp, Below.refl _ _⟩
  case round =>
  obtain ⟨j, hj, rfl, rfl, hno, BX⟩ := hrel
  have zx := BX.size
  rcases Nat.lt_or_ge j R.length with hlt | hge
  · have d5 : (j : Int) < (R.length : Int) := by omega
    obtain ⟨g, rfl, hg, y0, y1, y2⟩ := (R1.below BX).cells hlt
    have EA : R[j].1 = x → getM R x = some R[j].2 := getM_at hlt hno
    have EN : R[j].1 ≠ x → ∀ y ∈ R.take (j + 1), y.1 ≠ x := fun h y hy => by
      rw [List.take_succ_eq_append_getElem hlt] at hy
      rcases List.mem_append.1 hy with h1 | h1
      · exact hno y h1
      · simp only [List.mem_singleton] at h1
        rw [h1]; exact h
    obtain ⟨⟨yp, ya, yb⟩, hy⟩ : ∃ y : Int × Hv, y = R[j] := ⟨_, rfl⟩
    rw [← hy] at y0 y1 y2 EA EN
    simp only at y0 y1 y2 EA EN
    have HA : Hid (yp = x → getM R x = some ⟨ya, yb⟩) := EA
    have HN : Hid (yp ≠ x → ∀ y ∈ R.take (j + 1), y.1 ≠ x) := EN
    obtain ⟨XAy, XBy, BBy, sy⟩ := tvar 85 wr yp ya yb
    have X1r := X1.below BX
    generalize hwC : wr.alloc (.cells #[.int .i64 0, .int .i64 0, .int .i64 0] 85) = wC at *
    generalize hwD : wC.setRow wr.heap.size #[.int .i64 yp, .int .i64 ya, .int .i64 yb] = wD at *
    have v0 : wD.cell? ⟨wr.heap.size, 0, none⟩ = some (.int .i64 yp) := XBy.cell 0 rfl
    have X1D := X1r.below BBy
    clear hy EA EN hno hg
    by_cases hyp : yp = x
    · have HY : Hid (yp = x) := hyp
      have hyd : (yp == x) = true := by simp [hyp]
      clear hyp
      go_wp2_with (first
        | (refine wpList_store_row rfl 85 _ _ rfl wr.heap.size _ rfl rfl 85 _ XAy Try.infoRHvS rfl (tall _ _ _) ?_; rw [hwD])
        | (refine wpList_load_row rfl 85 _ rfl wr.heap.size rfl 85 _ (0, 0) _ XBy Try.underlying85 rfl Try.infoRHvS ?_)
        | (refine wpList_store_row rfl 85 _ _ rfl (w.heap.size + 1) _ rfl rfl 85 _ X1D Try.infoRHvS rfl (tall _ _ _) ?_))
      refine bodyPost_ret (results_s2 rfl _ _ (w.heap.size + 1) _ rfl (load_rHv (X1D.row _))) rfl ?_
      exact ⟨by rw [HA.out HY.out, ← HY.out]; rfl, belowR (below_then (below_then HB.out BX) BBy) (by omega) _⟩
    · have hyd : (yp == x) = false := by simpa using hyp
      go_wp2_with (refine wpList_store_row rfl 85 _ _ rfl wr.heap.size _ rfl rfl 85 _ XAy Try.infoRHvS rfl (tall _ _ _) ?_; rw [hwD])
      go_roundg (R.length - (j + 1))
      case measure => omega
      case rel => exact ⟨j + 1, by omega, rfl, by go_num, HN.out hyp, below_then BX BBy⟩
  · obtain rfl : j = R.length := by omega
    have X1r := X1.below BX
    have HN : Hid (getM R x = none) := getM_no (by rw [List.take_length] at hno; exact hno)
    clear hno
    go_wp2_with (refine wpList_store_row rfl 85 _ _ rfl (w.heap.size + 1) _ rfl rfl 85 _ X1r Try.infoRHvS rfl (tall _ _ _) ?_)
    refine bodyPost_ret (results_s2 rfl _ _ (w.heap.size + 1) _ rfl (load_rHv (X1r.row _))) rfl ?_
    exact ⟨by rw [HN.out]; rfl, belowR (below_then HB.out BX) (by omega) _⟩
set_option maxRecDepth 100000 in
set_option maxHeartbeats 8000000 in
theorem runhave_any (li cn x : Int) (ao bo : Option Addr) (c nn dd B : Nat) (R : List (Int × Hv)) (w : World) (hR : HvR w B (.slice ao R.length c) R) (hl : R.length ≤ 100000) :
   Calls Try.prog 30 #[rsV li cn (.slice bo nn dd) (.slice ao R.length c), .int .i64 x] w fun e w' => ∃ v', e = .returned (rsV li cn (.slice bo nn dd) v') ∧ HvR w' w.heap.size v' (delM R x) ∧ Below w.heap.size w w' := by
  unfold rsV
  have X0 := blk_new w 30 #[.int .i64 li, .int .i64 cn, .slice bo nn dd, .slice ao R.length c]
  have B0 := belowA w (.cells #[.int .i64 li, .int .i64 cn, .slice bo nn dd, .slice ao R.length c] 30)
  have s0 : (w.alloc (.cells #[.int .i64 li, .int .i64 cn, .slice bo nn dd, .slice ao R.length c] 30)).heap.size = w.heap.size + 1 := by simp
  generalize hw0 : w.alloc (.cells #[.int .i64 li, .int .i64 cn, .slice bo nn dd, .slice ao R.length c] 30) = w0 at *
  have X1 := blk_new w0 30 #[.int .i64 0, .int .i64 0, .slice none 0 0, .slice none 0 0]
  have B1 := belowA w0 (.cells #[.int .i64 0, .int .i64 0, .slice none 0 0, .slice none 0 0] 30)
  have s1 : (w0.alloc (.cells #[.int .i64 0, .int .i64 0, .slice none 0 0, .slice none 0 0] 30)).heap.size = w.heap.size + 1 + 1 := by simp [s0]
  have X01 := X0.below B1
  rw [s0] at X1
  generalize hw1 : w0.alloc (.cells #[.int .i64 0, .int .i64 0, .slice none 0 0, .slice none 0 0] 30) = w1 at *
  have R1 := (hR.below B0).below B1
  have O2 := KRow.new w1 85 3
  have B2 := belowA w1 (.cells #[] 85)
  have X02 := X01.below B2
  have X12 := X1.below B2
  have z2 : w1.heap.size + 1 ≤ (w1.alloc (.cells #[] 85)).heap.size := by simp
  generalize hw2 : w1.alloc (.cells #[] 85) = w2 at *
  have k2 : w2.cell? ⟨w.heap.size, 3, none⟩ = some (.slice ao R.length c) := X02.cell 3 rfl
  have HB : Hid (Below w.heap.size w w2 ∧ Below w1.heap.size w1 w2) := ⟨below_then (below_then B0 B1) B2, B2⟩
  clear hR B0 B1 B2
  go_enter Try.func30, Try.ntmps30
  go_wp2_with fail
  go_loopg [5, 12] R.length (fun gg s5 s12 wr => ∃ j : Nat, j ≤ R.length ∧ gg = R.length - j ∧ s12 = .int .i64 (j : Int) ∧ KRow wr w1.heap.size 85 3 s5 ((delM (R.take j) x).map cvHv) ∧ Below w1.heap.size w2 wr ∧ w1.heap.size + 1 ≤ wr.heap.size)
  case atStart => exact ⟨0, by omega, by omega, rfl, by rw [← s1]; exact O2, Below.refl _ _, z2⟩
  case round =>
  obtain ⟨j, hj, rfl, rfl, OX, BX, zX⟩ := hrel
  rcases Nat.lt_or_ge j R.length with hlt | hge
  · have d5 : (j : Int) < (R.length : Int) := by omega
    have BW : Below w1.heap.size w1 wr := HB.out.2.trans BX
    obtain ⟨g, rfl, hg, y0, y1, y2⟩ := (R1.below BW).cells hlt
    have E0 := delM_next (x := x) hlt
    have hln := List.length_filter_le (fun p : Int × Hv => decide (p.1 ≠ x)) (R.take j)
    rw [List.length_take] at hln
    have hln2 : ((delM (R.take j) x).map cvHv).length ≤ 100000 := by rw [List.length_map]; unfold delM; omega
    obtain ⟨⟨yp, ya, yb⟩, hy⟩ : ∃ y : Int × Hv, y = R[j] := ⟨_, rfl⟩
    rw [← hy] at y0 y1 y2 E0
    simp only at y0 y1 y2 E0
    have HE : Hid (delM (R.take (j + 1)) x = if yp = x then delM (R.take j) x else delM (R.take j) x ++ [(yp, ⟨ya, yb⟩)]) := E0
    generalize delM (R.take j) x = acc at *
    obtain ⟨XAy, XBy, BBy, sy⟩ := tvar 85 wr yp ya yb
    generalize hwC : wr.alloc (.cells #[.int .i64 0, .int .i64 0, .int .i64 0] 85) = wC at *
    generalize hwD : wC.setRow wr.heap.size #[.int .i64 yp, .int .i64 ya, .int .i64 yb] = wD at *
    have v0 : wD.cell? ⟨wr.heap.size, 0, none⟩ = some (.int .i64 yp) := XBy.cell 0 rfl
    have OD := KRow.below OX BBy
    have BBD : Below w1.heap.size wr wD := BBy.mono (by omega)
    clear hy E0 hg hln BW
    by_cases hyp : yp = x
    · have HY : Hid (yp = x) := hyp
      have hyd : (yp == x) = true := by simp [hyp]
      clear hyp
      go_wp2_with (refine wpList_store_row rfl 85 _ _ rfl wr.heap.size _ rfl rfl 85 _ XAy Try.infoRHvS rfl (tall _ _ _) ?_; rw [hwD])
      go_roundg (R.length - (j + 1))
      case measure => omega
      case rel => exact ⟨j + 1, by omega, rfl, by go_num, by rw [HE.out, if_pos HY.out]; exact OD, BX.trans BBD, by omega⟩
    · have hyd : (yp == x) = false := by simpa using hyp
      have OE := KRow.below OD (belowA wD (.cells #[.int .i64 yp, .int .i64 ya, .int .i64 yb] 85))
      go_wp2_with (first
        | (refine wpList_store_row rfl 85 _ _ rfl wr.heap.size _ rfl rfl 85 _ XAy Try.infoRHvS rfl (tall _ _ _) ?_; rw [hwD])
        | (refine wpList_load_row rfl 85 _ rfl wr.heap.size rfl 85 _ (0, 0) _ XBy Try.underlying85 rfl Try.infoRHvS ?_)
        | (at_builtin; refine wpList_append_k rfl _ _ 85 28 3 _ Try.underlying28 Try.infoRHv rfl (by omega) (by omega) rfl w1.heap.size _ _ rfl OE wD.heap.size [yp, ya, yb] rfl rfl (cells3 85 wD yp ya yb) hln2 (by simp; omega) ?_; intro v8 w8 O8 B8 _))
      go_roundg (R.length - (j + 1))
      case measure => omega
      case rel =>
        refine ⟨j + 1, by omega, rfl, by go_num, by rw [HE.out, if_neg hyp, List.map_append]; exact O8, BX.trans ((BBD.alloc (by omega) (.cells #[.int .i64 yp, .int .i64 ya, .int .i64 yb] 85)).trans B8), by have := B8.size; simp at this; omega⟩
  · obtain rfl : j = R.length := by omega
    rw [List.take_length] at OX
    obtain ⟨a5, c5, h5, _⟩ := KRow.len OX
    obtain ⟨n5, hn5⟩ : ∃ n5, n5 = ((delM R x).map cvHv).length := ⟨_, rfl⟩
    rw [← hn5] at h5
    subst h5
    clear hn5
    have X0r := X02.of_block (BX.block _ (by omega))
    have X1r := X12.of_block (BX.block _ (by omega))
    have kr : wr.cell? ⟨w.heap.size, 3, none⟩ = some (.slice ao R.length c) := X0r.cell 3 rfl
    have fr := X0r.frozen 3
    have X0s := X0r.set 3 (.slice a5 n5 c5)
    have X1s := X1r.other (a := ⟨w.heap.size, 3, none⟩) (by simp) (.slice a5 n5 c5)
    go_wp2_with (first
      | (refine wpList_load_row rfl 30 _ rfl w.heap.size rfl 30 _ (0, 0) _ X0s Try.underlying30 rfl Try.infoRsH ?_)
      | (refine wpList_store_row rfl 30 _ _ rfl (w.heap.size + 1) _ rfl rfl 30 _ X1s Try.infoRsH rfl (rall _ _ _ _ _ _ _ _) ?_))
    refine bodyPost_ret (results_cell_row rfl _ _ (w.heap.size + 1) 30 _ _ _ rfl (X1s.row _) Try.underlying30 rfl Try.infoRsH) rfl ?_
    refine ⟨.slice a5 n5 c5, rfl, ?_, ?_⟩
    · refine KRow.base (KRow.of_block OX (fun g hg hl => ?_)) (show w.heap.size ≤ w1.heap.size by omega)
      rw [setRow_other _ _ _ _ (by omega), Below.heap_setCell _ _ _ _ (by show g ≠ w.heap.size; omega)]
    · exact belowR (((HB.out.1.trans (BX.mono (by omega))).setCell (p := ⟨w.heap.size, 3, none⟩) (Nat.le_refl _) _)) (by omega) _
end Go.Proofs.Ytifbnnffejamaaa
