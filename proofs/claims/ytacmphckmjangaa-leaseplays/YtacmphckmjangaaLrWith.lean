/- The document's with. Written by tools/genlrw.py. -/
import Derived.Test.YtacmphckmjangaaLrFind
import Derived.Deep.CutRange
import Derived.Deep.DeepCutAuto
namespace Go.Proofs.Ytacmphckmjangaa
open Go.ChangeShapes Go.WideShapes Go.ChangeAt Go.RowKit Go.Maps
def stepW (p : Int × Hg) (x now : Int) (s : List (Int × Hg) × Bool) (y : Int × Hg) : List (Int × Hg) × Bool :=
  if y.2.unt ≤ now ∨ y.1 = x then s else if s.2 = false ∧ x < y.1 then (s.1 ++ [p] ++ [y], true) else (s.1 ++ [y], s.2)
def foldW (p : Int × Hg) (x now : Int) (d : Bool) (R : List (Int × Hg)) : List (Int × Hg) × Bool := R.foldl (stepW p x now) ([], d)
def withW (p : Int × Hg) (x now : Int) (d : Bool) (R : List (Int × Hg)) : List (Int × Hg) := if (foldW p x now d R).2 then (foldW p x now d R).1 else (foldW p x now d R).1 ++ [p]
theorem foldW_next (p : Int × Hg) (x now : Int) (d : Bool) {R : List (Int × Hg)} {j : Nat} (hlt : j < R.length) : foldW p x now d (R.take (j + 1)) = stepW p x now (foldW p x now d (R.take j)) R[j] := by
  unfold foldW
  rw [List.take_succ_eq_append_getElem hlt, List.foldl_append]
  rfl
theorem foldW_len (p : Int × Hg) (x now : Int) (d : Bool) (R : List (Int × Hg)) : ∀ j, j ≤ R.length → (foldW p x now d (R.take j)).1.length ≤ 2 * j
  | 0, _ => by simp [foldW]
  | j + 1, h => by
    have ih := foldW_len p x now d R j (by omega)
    rw [foldW_next p x now d (by omega)]
    unfold stepW
    split
    · omega
    · split
      · simp only [List.length_append, List.length_cons, List.length_nil]; omega
      · simp only [List.length_append, List.length_cons, List.length_nil]; omega
theorem foldW_put (p : Int × Hg) (now : Int) : ∀ (R : List (Int × Hg)) (s : List (Int × Hg) × Bool), R.foldl (stepW p p.1 now) s = (lastM now R).foldl (stepG p) s
  | [], s => rfl
  | y :: R, s => by
    rw [List.foldl_cons, foldW_put p now R]
    unfold lastM
    by_cases h : now < y.2.unt
    · rw [List.filter_cons_of_pos (by simpa using h), List.foldl_cons]
      congr 1
      unfold stepW stepG
      by_cases h2 : y.1 = p.1
      · rw [if_pos (Or.inr h2), if_pos h2]
      · rw [if_neg (by omega), if_neg h2]
    · rw [List.filter_cons_of_neg (by simpa using h)]
      congr 1
      unfold stepW
      rw [if_pos (Or.inl (by omega))]
theorem with_put (p : Int × Hg) (now : Int) (R : List (Int × Hg)) : withW p p.1 now false R = insG p (lastM now R) := by
  unfold withW insG foldW foldG
  rw [foldW_put]
theorem foldW_del (p : Int × Hg) (x now : Int) : ∀ (R acc : List (Int × Hg)), R.foldl (stepW p x now) (acc, true) = (acc ++ delM (lastM now R) x, true)
  | [], acc => by simp [lastM, delM]
  | y :: R, acc => by
    rw [List.foldl_cons]
    have e : stepW p x now (acc, true) y = (acc ++ delM (lastM now [y]) x, true) := by
      unfold stepW lastM delM
      by_cases h : now < y.2.unt
      · by_cases h2 : y.1 = x
        · rw [if_pos (Or.inr h2)]; simp [h, h2]
        · rw [if_neg (by omega), if_neg (by simp)]; simp [h, h2]
      · rw [if_pos (Or.inl (by omega))]; simp [h]
    rw [e, foldW_del p x now R]
    rw [List.append_assoc]
    have e2 : delM (lastM now (y :: R)) x = delM (lastM now [y]) x ++ delM (lastM now R) x := by
      unfold lastM delM
      rw [show y :: R = [y] ++ R from rfl, List.filter_append, List.filter_append]
    rw [e2]
theorem with_del (p : Int × Hg) (x now : Int) (R : List (Int × Hg)) : withW p x now true R = delM (lastM now R) x := by
  unfold withW foldW
  rw [foldW_del]
  simp
set_option maxRecDepth 100000 in
set_option maxHeartbeats 16000000 in
theorem rwith_any (ep q now x m0 m1 m2 m3 : Int) (d : Bool) (ao : Option Addr) (c : Nat) (R : List (Int × Hg)) (w : World) (hR : HRow w 0 (.slice ao R.length c) R) (hl : R.length ≤ 10000) (hd : d = decide (m3 = 0)) :
   Calls Try.prog 19 #[.agg #[.int .i64 ep, .int .i64 q, .slice ao R.length c], .int .i64 now, .int .i64 x, .agg #[.int .i64 m0, .int .i64 m1, .int .i64 m2, .int .i64 m3]] w fun e w' => ∃ v', e = .returned (.agg #[.int .i64 ep, .int .i64 q, v']) ∧ HRow w' w.heap.size v' (withW (m0, ⟨m1, m2, m3⟩) x now d R) ∧ Below w.heap.size w w' := by
  have X0 := blk_new w 28 #[.int .i64 ep, .int .i64 q, .slice ao R.length c]
  have B0 := belowA w (.cells #[.int .i64 ep, .int .i64 q, .slice ao R.length c] 28)
  have s0 : (w.alloc (.cells #[.int .i64 ep, .int .i64 q, .slice ao R.length c] 28)).heap.size = w.heap.size + 1 := by simp
  generalize hw0 : w.alloc (.cells #[.int .i64 ep, .int .i64 q, .slice ao R.length c] 28) = w0 at *
  have XM := blk_new w0 33 #[.int .i64 m0, .int .i64 m1, .int .i64 m2, .int .i64 m3]
  have B1 := belowA w0 (.cells #[.int .i64 m0, .int .i64 m1, .int .i64 m2, .int .i64 m3] 33)
  have s1 : (w0.alloc (.cells #[.int .i64 m0, .int .i64 m1, .int .i64 m2, .int .i64 m3] 33)).heap.size = w.heap.size + 1 + 1 := by simp [s0]
  have X01 := X0.below B1
  rw [s0] at XM
  generalize hw1 : w0.alloc (.cells #[.int .i64 m0, .int .i64 m1, .int .i64 m2, .int .i64 m3] 33) = w1 at *
  have X2 := blk_new w1 28 #[.int .i64 0, .int .i64 0, .slice none 0 0]
  have B2 := belowA w1 (.cells #[.int .i64 0, .int .i64 0, .slice none 0 0] 28)
  have s2 : (w1.alloc (.cells #[.int .i64 0, .int .i64 0, .slice none 0 0] 28)).heap.size = w.heap.size + 1 + 1 + 1 := by simp [s1]
  have X02 := X01.below B2
  have XM2 := XM.below B2
  rw [s1] at X2
  generalize hw2 : w1.alloc (.cells #[.int .i64 0, .int .i64 0, .slice none 0 0] 28) = w2 at *
  have HR2 : HRow w2 0 (.slice ao R.length c) R := KRow.below (KRow.below (KRow.below hR B0) B1) B2
  have HB : Hid (Below w.heap.size w w2) := below_then (below_then B0 B1) B2
  obtain ⟨XA9, XB9, VB9, z9⟩ := varR w2 28 #[.int .i64 0, .int .i64 0, .slice none 0 0] #[.int .i64 ep, .int .i64 q, .slice none 0 0]
  have k0 : w2.cell? ⟨w.heap.size, 0, none⟩ = some (.int .i64 ep) := X02.cell 0 rfl
  have k1 : w2.cell? ⟨w.heap.size, 1, none⟩ = some (.int .i64 q) := X02.cell 1 rfl
  generalize hwA9 : w2.alloc (.cells #[.int .i64 0, .int .i64 0, .slice none 0 0] 28) = wA9 at *
  generalize hw4 : wA9.setRow w2.heap.size #[.int .i64 ep, .int .i64 q, .slice none 0 0] = w4 at *
  have XM4 := XM2.below VB9
  have X04 := X02.below VB9
  have k2 : w4.cell? ⟨w.heap.size, 2, none⟩ = some (.slice ao R.length c) := X04.cell 2 rfl
  have k3 : w4.cell? ⟨w.heap.size + 1, 3, none⟩ = some (.int .i64 m3) := XM4.cell 3 rfl
  have z2 : w.heap.size + 1 + 1 + 1 ≤ w2.heap.size := by omega
  obtain ⟨p, hp⟩ : ∃ p : Int × Hg, p = (m0, ⟨m1, m2, m3⟩) := ⟨_, rfl⟩
  rw [← hp]
  have hcv : cvR p = [m0, m1, m2, m3] := by rw [hp]; rfl
  have HCV : Hid (cvR p = [m0, m1, m2, m3]) := hcv
  have hd2 : (m3 == 0) = d := by rw [hd]; by_cases h : m3 = 0 <;> simp [h]
  clear hR B0 B1 B2 s2 hp hcv hd
  go_enter Try.func19, Try.ntmps19
  go_wp2_with (refine wpList_store_row rfl 28 _ _ rfl w2.heap.size _ rfl rfl 28 _ XA9 Try.infoRs rfl (rallL _ _ _ _ _) ?_; rw [hw4])
  generalize hb9 : w2.heap.size = b9 at *
  clear k0 k1 k2 k3 hw0 hw1 hw2 hwA9 hw4 hd2 XA9 s0 s1
  go_loopg [10, 24] R.length (fun gg s10 s24 wr => ∃ (j n' c' : Nat) (a' : Option Addr), j ≤ R.length ∧ gg = R.length - j ∧ s24 = .int .i64 (j : Int) ∧ s10 = .bool (foldW p x now d (R.take j)).2 ∧ Blk wr b9 28 #[.int .i64 ep, .int .i64 q, .slice a' n' c'] ∧ KRow wr (b9 + 1) 33 4 (.slice a' n' c') ((foldW p x now d (R.take j)).1.map cvR) ∧ Below b9 w2 wr ∧ b9 + 1 ≤ wr.heap.size)
  case atStart => exact ⟨0, 0, 0, none, by omega, by omega, rfl, rfl, XB9, KRow.nil _ _ _ _, VB9.mono (by omega), by omega⟩
  case round =>
  obtain ⟨j, n', c', a', hj, rfl, rfl, rfl, X9, OX, BX, zr⟩ := hrel
  rcases Nat.lt_or_ge j R.length with hlt | hge
  case inr =>
    obtain rfl : j = R.length := by omega
    rw [List.take_length] at *
    have X2r := X2.of_block (BX.block _ (by omega))
    have XMr := XM2.of_block (BX.block _ (by omega))
    have HW : Hid (withW p x now d R = if (foldW p x now d R).2 then (foldW p x now d R).1 else (foldW p x now d R).1 ++ [p]) := rfl
    have hlen := foldW_len p x now d R R.length (Nat.le_refl _)
    rw [List.take_length] at hlen
    generalize foldW p x now d R = s at *
    obtain ⟨acc, dn⟩ := s
    simp only at OX hlen ⊢
    have HW2 : Hid (withW p x now d R = if dn then acc else acc ++ [p]) := HW.out
    clear HW
    cases dn with
    | true =>
      go_wp2_with (first
        | (refine wpList_load_row rfl 28 _ rfl b9 rfl 28 _ (0, 0) _ X9 Try.underlying28 rfl Try.infoRs ?_)
        | (refine wpList_store_row rfl 28 _ _ rfl (w.heap.size + 1 + 1) _ rfl rfl 28 _ X2r Try.infoRs rfl (rallL _ _ _ _ _) ?_))
      refine bodyPost_ret (results_cell_row rfl _ _ (w.heap.size + 1 + 1) 28 _ _ _ rfl (X2r.row _) Try.underlying28 rfl Try.infoRs) rfl ?_
      refine ⟨.slice a' n' c', rfl, ?_, belowR (HB.out.trans (BX.mono (by omega))) (by omega) _⟩
      unfold HRow
      rw [HW2.out]
      have OF := KRow.base (KRow.stay (w' := wr.setRow (w.heap.size + 1 + 1) #[.int .i64 ep, .int .i64 q, .slice a' n' c']) OX (fun g hg => setRow_other _ _ _ _ (by have := (KRow.ownlt OX g hg).1; omega))) (show w.heap.size ≤ b9 + 1 by omega)
      exact OF
    | false =>
      have X91 := X9
      have hl1 : (acc.map cvR).length ≤ 100000 := by rw [List.length_map]; omega
      have r1 : wr.cell? ⟨b9, 2, none⟩ = some (.slice a' n' c') := X91.cell 2 rfl
      have BE1 := belowA wr (.cells #[.int .i64 m0, .int .i64 m1, .int .i64 m2, .int .i64 m3] 33)
      have OE1 := KRow.below OX BE1
      have XE1 := X91.below BE1
      have CC1 := cells4 wr m0 m1 m2 m3
      have zE1 : wr.heap.size + 1 ≤ (wr.alloc (.cells #[.int .i64 m0, .int .i64 m1, .int .i64 m2, .int .i64 m3] 33)).heap.size := by simp
      generalize hwE1 : wr.alloc (.cells #[.int .i64 m0, .int .i64 m1, .int .i64 m2, .int .i64 m3] 33) = wE1 at *
      go_wp2_with (first
        | (refine wpList_load_row rfl 33 _ rfl (w.heap.size + 1) rfl 33 _ (0, 0) _ XMr Try.underlying33 rfl Try.infoRhS ?_)
        | (at_builtin; refine wpList_append_k rfl _ _ 33 22 4 _ Try.underlying22 Try.infoRh rfl (by omega) (by omega) rfl (b9 + 1) _ _ rfl OE1 wr.heap.size [m0, m1, m2, m3] rfl rfl CC1 hl1 (by omega) ?_; intro v1 w1 O1 B1 G1; obtain ⟨a1, c1, e1, _⟩ := KRow.len O1; obtain ⟨n1, hn1⟩ : ∃ nn, nn = ((acc.map cvR) ++ [[m0, m1, m2, m3]]).length := ⟨_, rfl⟩; rw [← hn1] at e1; subst e1; clear hn1; have Xq1 := XE1.of_block (B1.block b9 (by omega)); have rr1 : w1.cell? ⟨b9, 2, none⟩ = some (.slice a' n' c') := Xq1.cell 2 rfl; have ff1 := Xq1.frozen 2; have Xs1 := Xq1.set 2 (.slice a1 n1 c1); have Os1 := KRow.stay (w' := w1.setCell ⟨b9, 2, none⟩ (.slice a1 n1 c1)) O1 (fun g hg => Below.heap_setCell _ _ _ _ (by show g ≠ b9; have := (KRow.ownlt O1 g hg).1; omega)); have zz1 := B1.size; have BBs1 : Below b9 wr (w1.setCell ⟨b9, 2, none⟩ (.slice a1 n1 c1)) := ((BE1.mono (show b9 ≤ wr.heap.size by omega)).trans (B1.mono (show b9 ≤ b9 + 1 by omega))).setCell (p := ⟨b9, 2, none⟩) (show b9 ≤ b9 from Nat.le_refl _) _; have zs1 : wE1.heap.size ≤ (w1.setCell ⟨b9, 2, none⟩ (.slice a1 n1 c1)).heap.size := (by simp [World.setCell]; exact zz1); generalize hws1 : w1.setCell ⟨b9, 2, none⟩ (.slice a1 n1 c1) = ws1 at *)
        | (refine wpList_load_row rfl 28 _ rfl b9 rfl 28 _ (0, 0) _ Xs1 Try.underlying28 rfl Try.infoRs ?_)
        | (refine wpList_store_row rfl 28 _ _ rfl (w.heap.size + 1 + 1) _ rfl rfl 28 _ (X2r.of_block (BBs1.block _ (by omega))) Try.infoRs rfl (rallL _ _ _ _ _) ?_))
      have X2z := X2r.of_block (BBs1.block _ (by omega))
      have OZ : KRow ws1 (b9 + 1) 33 4 (.slice a1 n1 c1) ((acc ++ [p]).map cvR) := by rw [List.map_append, List.map_cons, List.map_nil, HCV.out]; exact Os1
      refine bodyPost_ret (results_cell_row rfl _ _ (w.heap.size + 1 + 1) 28 _ _ _ rfl (X2z.row _) Try.underlying28 rfl Try.infoRs) rfl ?_
      refine ⟨.slice a1 n1 c1, rfl, ?_, belowR ((HB.out.trans (BX.mono (by omega))).trans (BBs1.mono (by omega))) (by omega) _⟩
      unfold HRow
      rw [HW2.out]
      have OF := KRow.base (KRow.stay (w' := ws1.setRow (w.heap.size + 1 + 1) #[.int .i64 ep, .int .i64 q, .slice a1 n1 c1]) OZ (fun g hg => setRow_other _ _ _ _ (by have := (KRow.ownlt OZ g hg).1; omega))) (show w.heap.size ≤ b9 + 1 by omega)
      exact OF
  have d5 : (j : Int) < (R.length : Int) := by omega
  have R4 : HRow wr 0 (.slice ao R.length c) R := KRow.stay HR2 (fun g hg => BX.block g (by have := (KRow.ownlt HR2 g hg).2; omega))
  obtain ⟨g, rfl, hg, y0, y1, y2, y3⟩ := HRow.cells R4 hlt
  have E0 := foldW_next p x now d hlt
  have hlen := foldW_len p x now d R j hj
  obtain ⟨y, hy⟩ : ∃ y : Int × Hg, y = R[j] := ⟨_, rfl⟩
  rw [← hy] at y0 y1 y2 y3 E0
  have hcy : cvR y = [y.1, y.2.hol, y.2.epo, y.2.unt] := rfl
  have HCY : Hid (cvR y = [y.1, y.2.hol, y.2.epo, y.2.unt]) := hcy
  unfold stepW at E0
  generalize foldW p x now d (R.take j) = s at *
  obtain ⟨acc, dn⟩ := s
  simp only at OX hlen E0 ⊢
  generalize y.1 = yp at *
  generalize y.2.hol = yh at *
  generalize y.2.epo = ye at *
  generalize y.2.unt = yu at *
  have HE : Hid (foldW p x now d (R.take (j + 1)) = if yu ≤ now ∨ yp = x then (acc, dn) else if dn = false ∧ x < yp then (acc ++ [p] ++ [y], true) else (acc ++ [y], dn)) := E0
  obtain ⟨XAy, XBy, BBy, sy⟩ := varR wr 33 #[.int .i64 0, .int .i64 0, .int .i64 0, .int .i64 0] #[.int .i64 yp, .int .i64 yh, .int .i64 ye, .int .i64 yu]
  generalize hwC : wr.alloc (.cells #[.int .i64 0, .int .i64 0, .int .i64 0, .int .i64 0] 33) = wC at *
  generalize hwD : wC.setRow wr.heap.size #[.int .i64 yp, .int .i64 yh, .int .i64 ye, .int .i64 yu] = wD at *
  have v0 : wD.cell? ⟨wr.heap.size, 0, none⟩ = some (.int .i64 yp) := XBy.cell 0 rfl
  have v3 : wD.cell? ⟨wr.heap.size, 3, none⟩ = some (.int .i64 yu) := XBy.cell 3 rfl
  have X9D := X9.below BBy
  have OD := KRow.below OX BBy
  have hol := KRow.ownlt OX
  have BXD : Below b9 w2 wD := BX.trans (BBy.mono (by omega))
  clear hy E0 hg R4 hcy
  by_cases h1 : yu ≤ now
  · have HS' : Hid (foldW p x now d (R.take (j + 1)) = (acc, dn)) := by rw [HE.out, if_pos (Or.inl h1)]; rfl
    go_wp2_with (refine wpList_store_row rfl 33 _ _ rfl wr.heap.size _ rfl rfl 33 _ XAy Try.infoRhS rfl (hall4 _ _ _ _) ?_; rw [hwD])
    go_roundg (R.length - (j + 1))
    case measure => omega
    case rel => exact ⟨j + 1, n', c', a', by omega, rfl, by go_num, by rw [HS'.out], X9D, by rw [HS'.out]; exact OD, BXD, by omega⟩
  by_cases h2 : yp = x
  · have HS' : Hid (foldW p x now d (R.take (j + 1)) = (acc, dn)) := by rw [HE.out, if_pos (Or.inr h2)]; rfl
    have h2' : (yp == x) = true := by simp [h2]
    clear h2
    go_wp2_with (refine wpList_store_row rfl 33 _ _ rfl wr.heap.size _ rfl rfl 33 _ XAy Try.infoRhS rfl (hall4 _ _ _ _) ?_; rw [hwD])
    go_roundg (R.length - (j + 1))
    case measure => omega
    case rel => exact ⟨j + 1, n', c', a', by omega, rfl, by go_num, by rw [HS'.out], X9D, by rw [HS'.out]; exact OD, BXD, by omega⟩
  have h2' : (yp == x) = false := by simpa using h2
  have hl1 : (acc.map cvR).length ≤ 100000 := by rw [List.length_map]; omega
  have XMD := (XM2.of_block (BXD.block _ (by omega)) : Blk wD (w.heap.size + 1) 33 #[.int .i64 m0, .int .i64 m1, .int .i64 m2, .int .i64 m3])
  have X91 := X9D
  cases dn with
  | true =>
    have HS' : Hid (foldW p x now d (R.take (j + 1)) = (acc ++ [y], true)) := by rw [HE.out, if_neg (by omega), if_neg (by simp)]; rfl
    clear HE
    have r1 : wD.cell? ⟨b9, 2, none⟩ = some (.slice a' n' c') := X91.cell 2 rfl
    have BE1 := belowA wD (.cells #[.int .i64 yp, .int .i64 yh, .int .i64 ye, .int .i64 yu] 33)
    have OE1 := KRow.below OD BE1
    have XE1 := X91.below BE1
    have CC1 := cells4 wD yp yh ye yu
    have zE1 : wD.heap.size + 1 ≤ (wD.alloc (.cells #[.int .i64 yp, .int .i64 yh, .int .i64 ye, .int .i64 yu] 33)).heap.size := by simp
    generalize hwE1 : wD.alloc (.cells #[.int .i64 yp, .int .i64 yh, .int .i64 ye, .int .i64 yu] 33) = wE1 at *
    go_wp2_with (first
      | (refine wpList_store_row rfl 33 _ _ rfl wr.heap.size _ rfl rfl 33 _ XAy Try.infoRhS rfl (hall4 _ _ _ _) ?_; rw [hwD])
      | (refine wpList_load_row rfl 33 _ rfl wr.heap.size rfl 33 _ (0, 0) _ XBy Try.underlying33 rfl Try.infoRhS ?_)
      | (at_builtin; refine wpList_append_k rfl _ _ 33 22 4 _ Try.underlying22 Try.infoRh rfl (by omega) (by omega) rfl (b9 + 1) _ _ rfl OE1 wD.heap.size [yp, yh, ye, yu] rfl rfl CC1 hl1 (by omega) ?_; intro v1 w1 O1 B1 G1; obtain ⟨a1, c1, e1, _⟩ := KRow.len O1; obtain ⟨n1, hn1⟩ : ∃ nn, nn = ((acc.map cvR) ++ [[yp, yh, ye, yu]]).length := ⟨_, rfl⟩; rw [← hn1] at e1; subst e1; clear hn1; have Xq1 := XE1.of_block (B1.block b9 (by omega)); have rr1 : w1.cell? ⟨b9, 2, none⟩ = some (.slice a' n' c') := Xq1.cell 2 rfl; have ff1 := Xq1.frozen 2; have Xs1 := Xq1.set 2 (.slice a1 n1 c1); have Os1 := KRow.stay (w' := w1.setCell ⟨b9, 2, none⟩ (.slice a1 n1 c1)) O1 (fun g hg => Below.heap_setCell _ _ _ _ (by show g ≠ b9; have := (KRow.ownlt O1 g hg).1; omega)); have zz1 := B1.size; have BBs1 : Below b9 wD (w1.setCell ⟨b9, 2, none⟩ (.slice a1 n1 c1)) := ((BE1.mono (show b9 ≤ wD.heap.size by omega)).trans (B1.mono (show b9 ≤ b9 + 1 by omega))).setCell (p := ⟨b9, 2, none⟩) (show b9 ≤ b9 from Nat.le_refl _) _; have zs1 : wE1.heap.size ≤ (w1.setCell ⟨b9, 2, none⟩ (.slice a1 n1 c1)).heap.size := (by simp [World.setCell]; exact zz1); generalize hws1 : w1.setCell ⟨b9, 2, none⟩ (.slice a1 n1 c1) = ws1 at *))
    have OZ : KRow ws1 (b9 + 1) 33 4 (.slice a1 n1 c1) ((acc ++ [y]).map cvR) := by rw [List.map_append, List.map_cons, List.map_nil, HCY.out]; exact Os1
    go_roundg (R.length - (j + 1))
    case measure => omega
    case rel => exact ⟨j + 1, n1, c1, a1, by omega, rfl, by go_num, by rw [HS'.out], Xs1, by rw [HS'.out]; exact OZ, BXD.trans BBs1, by omega⟩
  | false =>
    by_cases h3 : x < yp
    case neg =>
      have HS' : Hid (foldW p x now d (R.take (j + 1)) = (acc ++ [y], false)) := by rw [HE.out, if_neg (by omega), if_neg (fun h => h3 h.2)]; rfl
      clear HE
      have r1 : wD.cell? ⟨b9, 2, none⟩ = some (.slice a' n' c') := X91.cell 2 rfl
      have BE1 := belowA wD (.cells #[.int .i64 yp, .int .i64 yh, .int .i64 ye, .int .i64 yu] 33)
      have OE1 := KRow.below OD BE1
      have XE1 := X91.below BE1
      have CC1 := cells4 wD yp yh ye yu
      have zE1 : wD.heap.size + 1 ≤ (wD.alloc (.cells #[.int .i64 yp, .int .i64 yh, .int .i64 ye, .int .i64 yu] 33)).heap.size := by simp
      generalize hwE1 : wD.alloc (.cells #[.int .i64 yp, .int .i64 yh, .int .i64 ye, .int .i64 yu] 33) = wE1 at *
      go_wp2_with (first
        | (refine wpList_store_row rfl 33 _ _ rfl wr.heap.size _ rfl rfl 33 _ XAy Try.infoRhS rfl (hall4 _ _ _ _) ?_; rw [hwD])
        | (refine wpList_load_row rfl 33 _ rfl wr.heap.size rfl 33 _ (0, 0) _ XBy Try.underlying33 rfl Try.infoRhS ?_)
        | (at_builtin; refine wpList_append_k rfl _ _ 33 22 4 _ Try.underlying22 Try.infoRh rfl (by omega) (by omega) rfl (b9 + 1) _ _ rfl OE1 wD.heap.size [yp, yh, ye, yu] rfl rfl CC1 hl1 (by omega) ?_; intro v1 w1 O1 B1 G1; obtain ⟨a1, c1, e1, _⟩ := KRow.len O1; obtain ⟨n1, hn1⟩ : ∃ nn, nn = ((acc.map cvR) ++ [[yp, yh, ye, yu]]).length := ⟨_, rfl⟩; rw [← hn1] at e1; subst e1; clear hn1; have Xq1 := XE1.of_block (B1.block b9 (by omega)); have rr1 : w1.cell? ⟨b9, 2, none⟩ = some (.slice a' n' c') := Xq1.cell 2 rfl; have ff1 := Xq1.frozen 2; have Xs1 := Xq1.set 2 (.slice a1 n1 c1); have Os1 := KRow.stay (w' := w1.setCell ⟨b9, 2, none⟩ (.slice a1 n1 c1)) O1 (fun g hg => Below.heap_setCell _ _ _ _ (by show g ≠ b9; have := (KRow.ownlt O1 g hg).1; omega)); have zz1 := B1.size; have BBs1 : Below b9 wD (w1.setCell ⟨b9, 2, none⟩ (.slice a1 n1 c1)) := ((BE1.mono (show b9 ≤ wD.heap.size by omega)).trans (B1.mono (show b9 ≤ b9 + 1 by omega))).setCell (p := ⟨b9, 2, none⟩) (show b9 ≤ b9 from Nat.le_refl _) _; have zs1 : wE1.heap.size ≤ (w1.setCell ⟨b9, 2, none⟩ (.slice a1 n1 c1)).heap.size := (by simp [World.setCell]; exact zz1); generalize hws1 : w1.setCell ⟨b9, 2, none⟩ (.slice a1 n1 c1) = ws1 at *))
      have OZ : KRow ws1 (b9 + 1) 33 4 (.slice a1 n1 c1) ((acc ++ [y]).map cvR) := by rw [List.map_append, List.map_cons, List.map_nil, HCY.out]; exact Os1
      go_roundg (R.length - (j + 1))
      case measure => omega
      case rel => exact ⟨j + 1, n1, c1, a1, by omega, rfl, by go_num, by rw [HS'.out], Xs1, by rw [HS'.out]; exact OZ, BXD.trans BBs1, by omega⟩
    have HS' : Hid (foldW p x now d (R.take (j + 1)) = (acc ++ [p] ++ [y], true)) := by rw [HE.out, if_neg (by omega), if_pos ⟨rfl, h3⟩]; rfl
    clear HE
    have Y1 := XBy
    have r1 : wD.cell? ⟨b9, 2, none⟩ = some (.slice a' n' c') := X91.cell 2 rfl
    have BE1 := belowA wD (.cells #[.int .i64 m0, .int .i64 m1, .int .i64 m2, .int .i64 m3] 33)
    have OE1 := KRow.below OD BE1
    have XE1 := X91.below BE1
    have CC1 := cells4 wD m0 m1 m2 m3
    have zE1 : wD.heap.size + 1 ≤ (wD.alloc (.cells #[.int .i64 m0, .int .i64 m1, .int .i64 m2, .int .i64 m3] 33)).heap.size := by simp
    generalize hwE1 : wD.alloc (.cells #[.int .i64 m0, .int .i64 m1, .int .i64 m2, .int .i64 m3] 33) = wE1 at *
    go_upto_region 10 with (first
      | (refine wpList_store_row rfl 33 _ _ rfl wr.heap.size _ rfl rfl 33 _ XAy Try.infoRhS rfl (hall4 _ _ _ _) ?_; rw [hwD])
      | (refine wpList_load_row rfl 33 _ rfl (w.heap.size + 1) rfl 33 _ (0, 0) _ XMD Try.underlying33 rfl Try.infoRhS ?_)
      | (at_builtin; refine wpList_append_k rfl _ _ 33 22 4 _ Try.underlying22 Try.infoRh rfl (by omega) (by omega) rfl (b9 + 1) _ _ rfl OE1 wD.heap.size [m0, m1, m2, m3] rfl rfl CC1 hl1 (by omega) ?_; intro v1 w1 O1 B1 G1; obtain ⟨a1, c1, e1, _⟩ := KRow.len O1; obtain ⟨n1, hn1⟩ : ∃ nn, nn = ((acc.map cvR) ++ [[m0, m1, m2, m3]]).length := ⟨_, rfl⟩; rw [← hn1] at e1; subst e1; clear hn1; have Xq1 := XE1.of_block (B1.block b9 (by omega)); have rr1 : w1.cell? ⟨b9, 2, none⟩ = some (.slice a' n' c') := Xq1.cell 2 rfl; have ff1 := Xq1.frozen 2; have Xs1 := Xq1.set 2 (.slice a1 n1 c1); have Os1 := KRow.stay (w' := w1.setCell ⟨b9, 2, none⟩ (.slice a1 n1 c1)) O1 (fun g hg => Below.heap_setCell _ _ _ _ (by show g ≠ b9; have := (KRow.ownlt O1 g hg).1; omega)); have zz1 := B1.size; have Y1e := Y1.below BE1; have Y1f := Y1e.of_block (G1.block _ (by have := sy; omega) (fun e => by have := (hol wr.heap.size e.symm).2; omega)); have Y1g := Y1f.other (a := ⟨b9, 2, none⟩) (by show wr.heap.size ≠ b9; omega) (.slice a1 n1 c1); have BBs1 : Below b9 wD (w1.setCell ⟨b9, 2, none⟩ (.slice a1 n1 c1)) := ((BE1.mono (show b9 ≤ wD.heap.size by omega)).trans (B1.mono (show b9 ≤ b9 + 1 by omega))).setCell (p := ⟨b9, 2, none⟩) (show b9 ≤ b9 from Nat.le_refl _) _; have zs1 : wE1.heap.size ≤ (w1.setCell ⟨b9, 2, none⟩ (.slice a1 n1 c1)).heap.size := (by simp [World.setCell]; exact zz1); generalize hws1 : w1.setCell ⟨b9, 2, none⟩ (.slice a1 n1 c1) = ws1 at *))
    have X92 := Xs1
    have hl2 : ((acc.map cvR) ++ [[m0, m1, m2, m3]]).length ≤ 100000 := by rw [List.length_append, List.length_map]; simp only [List.length_cons, List.length_nil]; omega
    have r2 : ws1.cell? ⟨b9, 2, none⟩ = some (.slice a1 n1 c1) := X92.cell 2 rfl
    have BE2 := belowA ws1 (.cells #[.int .i64 yp, .int .i64 yh, .int .i64 ye, .int .i64 yu] 33)
    have OE2 := KRow.below Os1 BE2
    have XE2 := X92.below BE2
    have CC2 := cells4 ws1 yp yh ye yu
    have zE2 : ws1.heap.size + 1 ≤ (ws1.alloc (.cells #[.int .i64 yp, .int .i64 yh, .int .i64 ye, .int .i64 yu] 33)).heap.size := by simp
    generalize hwE2 : ws1.alloc (.cells #[.int .i64 yp, .int .i64 yh, .int .i64 ye, .int .i64 yu] 33) = wE2 at *
    go_wp2_with (first
      | (refine wpList_load_row rfl 33 _ rfl wr.heap.size rfl 33 _ (0, 0) _ Y1g Try.underlying33 rfl Try.infoRhS ?_)
      | (at_builtin; refine wpList_append_k rfl _ _ 33 22 4 _ Try.underlying22 Try.infoRh rfl (by omega) (by omega) rfl (b9 + 1) _ _ rfl OE2 ws1.heap.size [yp, yh, ye, yu] rfl rfl CC2 hl2 (by omega) ?_; intro v2 w2 O2 B2 G2; obtain ⟨a2, c2, e2, _⟩ := KRow.len O2; obtain ⟨n2, hn2⟩ : ∃ nn, nn = ((acc.map cvR ++ [[m0, m1, m2, m3]]) ++ [[yp, yh, ye, yu]]).length := ⟨_, rfl⟩; rw [← hn2] at e2; subst e2; clear hn2; have Xq2 := XE2.of_block (B2.block b9 (by omega)); have rr2 : w2.cell? ⟨b9, 2, none⟩ = some (.slice a1 n1 c1) := Xq2.cell 2 rfl; have ff2 := Xq2.frozen 2; have Xs2 := Xq2.set 2 (.slice a2 n2 c2); have Os2 := KRow.stay (w' := w2.setCell ⟨b9, 2, none⟩ (.slice a2 n2 c2)) O2 (fun g hg => Below.heap_setCell _ _ _ _ (by show g ≠ b9; have := (KRow.ownlt O2 g hg).1; omega)); have zz2 := B2.size; have BBs2 : Below b9 ws1 (w2.setCell ⟨b9, 2, none⟩ (.slice a2 n2 c2)) := ((BE2.mono (show b9 ≤ ws1.heap.size by omega)).trans (B2.mono (show b9 ≤ b9 + 1 by omega))).setCell (p := ⟨b9, 2, none⟩) (show b9 ≤ b9 from Nat.le_refl _) _; have zs2 : wE2.heap.size ≤ (w2.setCell ⟨b9, 2, none⟩ (.slice a2 n2 c2)).heap.size := (by simp [World.setCell]; exact zz2); generalize hws2 : w2.setCell ⟨b9, 2, none⟩ (.slice a2 n2 c2) = ws2 at *))
    have OZ : KRow ws2 (b9 + 1) 33 4 (.slice a2 n2 c2) ((acc ++ [p] ++ [y]).map cvR) := by rw [List.map_append, List.map_append, List.map_cons, List.map_nil, List.map_cons, List.map_nil, HCY.out, HCV.out]; exact Os2
    go_roundg (R.length - (j + 1))
    case measure => omega
    case rel => exact ⟨j + 1, n2, c2, a2, by omega, rfl, by go_num, by rw [HS'.out], Xs2, by rw [HS'.out]; exact OZ, (BXD.trans BBs1).trans BBs2, by omega⟩
end Go.Proofs.Ytacmphckmjangaa
