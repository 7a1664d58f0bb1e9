/- send's Next: rows of parts. -/
import Derived.Test.YtdopcagikcdfcaaDoorSdGot
import Derived.Deep.RegionLaw
namespace Go.Proofs.YtdopcagikcdfcaaDoor
open Go.ChangeShapes Go.WideShapes Go.ChangeAt Go.RowKit
/-- v is a row of parts of the call's own, from block B on. -/
structure PRow (w : World) (B : Nat) (v : Value) (R : List (List Value)) : Prop where
  own : w.ownsRow B 40 4 v R.length R.flatten
  each : ∀ x ∈ R, x.length = 4
theorem PRow.of_block {w w' : World} {B : Nat} {v : Value} {R : List (List Value)} (h : PRow w B v R) (hb : ∀ g, v.ownBlock = some g → B ≤ g → g < w.heap.size → w'.heap[g]? = w.heap[g]?) : PRow w' B v R := by
  refine ⟨⟨h.own.1, ?_⟩, h.each⟩
  rcases h.own.2 with h2 | ⟨g, cap, cur, h3, h4, h5, h6⟩
  · exact Or.inl h2
  · exact Or.inr ⟨g, cap, cur, h3, h4, (hb g (by rw [h3]; rfl) h4 (Array.getElem?_eq_some_iff.1 h5).1).trans h5, h6⟩
theorem PRow.below {w w' : World} {B : Nat} {v : Value} {R : List (List Value)} (h : PRow w B v R) (hb : Below w.heap.size w w') : PRow w' B v R := h.of_block (fun g _ _ hg => hb.block g hg)
theorem PRow.base {w : World} {B B' : Nat} {v : Value} {R : List (List Value)} (h : PRow w B v R) (hB : B' ≤ B) : PRow w B' v R := by
  refine ⟨⟨h.own.1, ?_⟩, h.each⟩
  rcases h.own.2 with h2 | ⟨g, cap, cur, h3, h4, h5⟩
  · exact Or.inl h2
  · exact Or.inr ⟨g, cap, cur, h3, by omega, h5⟩
theorem PRow.nil (w : World) (B : Nat) : PRow w B (.slice none 0 0) [] := ⟨World.ownsRow_nil _ _ _ _, by simp⟩
theorem PRow.form {w : World} {B : Nat} {v : Value} {R : List (List Value)} (h : PRow w B v R) : ∃ a c, v = .slice a R.length c ∧ R.length ≤ c ∧ c ≤ 9223372036854775807 := by
  rcases h.own.2 with ⟨h2, h3⟩ | ⟨g, cap, cur, h3, h4, h5, h6, h7, _⟩
  · rw [h3]; exact ⟨none, 0, h2, Nat.le_refl _, by omega⟩
  · exact ⟨_, _, h3, h6, by unfold maxLen at h7; exact h7⟩
theorem PRow.max {w : World} {B : Nat} {a : Option Addr} {n c : Nat} {R : List (List Value)} (h : PRow w B (.slice a n c) R) : R.length = n ∧ n ≤ c ∧ c ≤ 9223372036854775807 := by
  obtain ⟨a', c', e, h1, h2⟩ := h.form
  injection e with e1 e2 e3
  subst e2; subst e3
  exact ⟨rfl, h1, h2⟩
theorem flat4 : ∀ (R : List (List Value)), (∀ x ∈ R, x.length = 4) → ∀ t j, t < R.length → j < 4 → R.flatten[t * 4 + j]? = (R.getD t [])[j]?
  | [], _, t, j, ht, _ => by simp at ht
  | x :: R, h, t, j, ht, hj => by
    have hx := h x List.mem_cons_self
    rw [List.flatten_cons]
    cases t with
    | zero => rw [Nat.zero_mul, Nat.zero_add, List.getElem?_append_left (by omega)]; rfl
    | succ t =>
      rw [List.getElem?_append_right (by omega), hx, show (t + 1) * 4 + j - 4 = t * 4 + j by omega, flat4 R (fun y hy => h y (List.mem_cons_of_mem _ hy)) t j (by simp at ht; omega) hj]
      simp
/-- Where a row that has a part lies, and its cells. -/
theorem PRow.cells {w : World} {B : Nat} {a : Option Addr} {n c : Nat} {R : List (List Value)} (h : PRow w B (.slice a n c) R) (hn : 0 < n) : ∃ g, a = some ⟨g, 0, none⟩ ∧ B ≤ g ∧ g < w.heap.size ∧ ∀ t j, t < n → j < 4 → w.cell? ⟨g, t * 4 + j, none⟩ = (R.getD t [])[j]? := by
  have hm := h.max
  rcases h.own.2 with ⟨h2, h3⟩ | ⟨g, cap, cur, h3, h4, h5, _⟩
  · omega
  · injection h3 with e1 e2 e3
    subst e1
    refine ⟨g, rfl, h4, (Array.getElem?_eq_some_iff.1 h5).1, fun t j ht hj => ?_⟩
    have ho := h.own
    rw [hm.1] at ho
    rw [World.ownsRow.cellAt ho (t * 4 + j) (by omega), flat4 R h.each t j (by omega) hj]
theorem Tryd.infoPart : (Tryd.prog.info? 40).map (fun i => (i.zero, i.size, i.bytes)) = some (some (.agg #[.int .i64 0, .int .i64 0, .int .i64 0, .string ⟨#[]⟩]), 4, 40) := by kernel_rfl
def partR (y0 y1 y2 : Int) (y3 : ByteArray) : List Value := [.int .i64 y0, .int .i64 y1, .int .i64 y2, .string y3]
/-- append of one part that lies in a block of its own, as one step of a region that draws. -/
theorem step_append_part {ops : Array Oper} {o : Oper} {a : Act} {w : World} {K : Act → World → Prop} {Q : Exit → Act → World → Prop} {E : Prop} (hg : o.guard = none) (s x : Operand)
    (ho : o.op = .call { callee := .builtin .append, args := #[s, x], argTypes := #[37, 37] }) (B : Nat) (v : Value) (R : List (List Value)) (hs : a.eval s = v) (hO : PRow w B v R)
    (c : Nat) (y0 y1 y2 : Int) (y3 : ByteArray) (hx : a.eval x = .slice (some ⟨c, 0, none⟩) 1 1) (hc : Blk w c 40 #[.int .i64 y0, .int .i64 y1, .int .i64 y2, .string y3]) (hn : R.length ≤ 100000) (hB : B ≤ w.heap.size)
    (hK : ∀ a' c' w', PRow w' B (.slice a' (R.length + 1) c') (R ++ [partR y0 y1 y2 y3]) → Below B w w' → w.grownBy w' v.ownBlock → K (a.put o.dst (.slice a' (R.length + 1) c')) w') :
    if Region.wanted o (yielded ops a.tmps) = true then Oper.wp Tryd.prog o a w K Q else E := by
  have hw : Region.wanted o (yielded ops a.tmps) = true := by simp [Region.wanted, hg]
  rw [if_pos hw]
  obtain ⟨i0, hi0, hzz⟩ := Option.map_eq_some_iff.1 Tryd.infoPart
  simp only [Prod.mk.injEq] at hzz
  obtain ⟨hz0, hz1, hz2⟩ := hzz
  refine wp_append_own w s x 37 ho B 40 i0 _ 4 40 Tryd.underlying37 hi0 hz0 hz1 hz2 rfl (by decide) v R.length R.flatten hs hO.own ⟨c, 0, none⟩ 1 1 [.int .i64 y0, .int .i64 y1, .int .i64 y2, .string y3] hx rfl (fun j u hj => ?_) (fun u hu => ?_) (by unfold maxLen; omega) (by omega) hB ?_
  · have e2 : (Addr.mk c 0 none).add j = ⟨c, j, none⟩ := by simp [Addr.add]; intro h; exact h.symm
    rw [e2]
    exact hc.cell j (by rw [← hj]; simp)
  · simp at hu
    rcases hu with rfl | rfl | rfl | rfl <;> rfl
  · intro v' w' O1 G1 _
    have O2 : PRow w' B v' (R ++ [partR y0 y1 y2 y3]) := by
      refine ⟨?_, fun x hx => ?_⟩
      · have e1 : (R ++ [partR y0 y1 y2 y3]).length = R.length + 1 := by simp
        have e2 : (R ++ [partR y0 y1 y2 y3]).flatten = R.flatten ++ partR y0 y1 y2 y3 := by simp
        rw [e1, e2]
        exact O1
      · rcases List.mem_append.1 hx with h | h
        · exact hO.each x h
        · simp at h; subst h; rfl
    obtain ⟨a', c', rfl, _⟩ := O2.form
    rw [List.length_append, List.length_singleton] at *
    exact hK a' c' w' O2 ((Below.refl _ _).grown G1 hB (fun j hj => (hO.own.lt j hj).1)) G1
theorem leftL_el (C : List Bool) : ∀ (n t : Nat), t < (leftL C n).length → 0 ≤ el (leftL C n) t ∧ el (leftL C n) t < (n : Int)
  | 0, t, h => by simp [leftL] at h
  | n + 1, t, h => by
    have ih := leftL_el C n t
    cases hb : be C n with
    | true => rw [leftL_come hb] at *; have := ih h; omega
    | false =>
      rw [leftL_not hb] at *
      rw [List.length_append, List.length_singleton] at h
      by_cases h1 : t < (leftL C n).length
      · have e : el (leftL C n ++ [(n : Int)]) t = el (leftL C n) t := by unfold el; rw [List.getD_eq_getElem?_getD, List.getElem?_append_left h1, ← List.getD_eq_getElem?_getD]
        rw [e]
        have := ih h1
        omega
      · have e : el (leftL C n ++ [(n : Int)]) t = (n : Int) := by unfold el; rw [List.getD_eq_getElem?_getD, List.getElem?_append_right (by omega), show t - (leftL C n).length = 0 by omega]; rfl
        rw [e]
        omega
/-- The parts of these places. -/
def partsL (num : Int) (n : Nat) (S : List ByteArray) (A : List Int) : List (List Value) := A.map (fun i => partR num i n (se S i.toNat))
theorem partsL_snoc (num : Int) (n : Nat) (S : List ByteArray) (A : List Int) (t : Nat) (h : t < A.length) : partsL num n S (A.take (t + 1)) = partsL num n S (A.take t) ++ [partR num (el A t) n (se S (el A t).toNat)] := by
  unfold partsL el
  rw [List.take_succ_eq_append_getElem h, List.map_append]
  simp [List.getD_eq_getElem?_getD, List.getElem?_eq_getElem h]
theorem partsL_len (num : Int) (n : Nat) (S : List ByteArray) (A : List Int) : (partsL num n S A).length = A.length := by simp [partsL]
set_option maxHeartbeats 32000000 in
theorem snext_any (num M : Int) (ap ac : Option Addr) (n cp m cc q : Nat) (S : List ByteArray) (C : List Bool) (w : World) (hS : VArg w ap n cp (strs S)) (hC : VArg w ac m cc (bools C)) (hn : n ≤ 4096) (hz : ∀ s ∈ S, s.size ≤ 140737488355328) (hq : q = min M.toNat (leftL C n).length) :
   Calls Tryd.prog 9 #[stV num (.slice ap n cp) (.slice ac m cc), .int .i64 M] w fun e w' => ∃ a c, e = .returned (.slice a q c) ∧ PRow w' w.heap.size (.slice a q c) (partsL num n S ((leftL C n).take q)) ∧ Below w.heap.size w w' := by
  have hlS : S.length = n := by rw [← strs_len]; exact hS.len
  have hfp := hS.fit
  have hmp := hS.max
  have X0 := blk_new w 30 #[.int .i64 num, .slice ap n cp, .slice ac m cc]
  have B0 := belowA w (.cells #[.int .i64 num, .slice ap n cp, .slice ac m cc] 30)
  have s0 : (w.alloc (.cells #[.int .i64 num, .slice ap n cp, .slice ac m cc] 30)).heap.size = w.heap.size + 1 := by simp
  unfold stV
  generalize hw0 : w.alloc (.cells #[.int .i64 num, .slice ap n cp, .slice ac m cc] 30) = w0 at *
  have L := sleft_any num ap ac n cp m cc C w0 (hC.below B0) (by omega)
  unfold stV at L
  have HS : Hid (VArg w ap n cp (strs S)) := hS
  have hk := leftL_len C n
  have hel := leftL_el C n
  generalize leftL C n = A at *
  generalize hkA : A.length = k at *
  have hqk : q ≤ k := by omega
  have hQ : min (max M 0) (k : Int) = (q : Int) := by omega
  have HQ : Hid (∀ t, t < k → 0 ≤ el A t ∧ el A t < (n : Int)) := hel
  clear hS hC hel hq
  go_enter Tryd.func9, Tryd.ntmps9
  go_wp2_with (first
    | (go_at_call 16; refine L.mono ?_; rintro e w2 ⟨a, c, rfl, O2, B2⟩; have X2 := X0.below B2; have BB2 := below_then B0 B2; have hO := VOwn.varg O2; have hfo := hO.fit; have hmo := hO.max)
    | (refine wpList_load_row rfl 30 _ rfl w.heap.size rfl 30 _ (0, 0) _ X0 Tryd.underlying30 rfl Tryd.infoSs ?_))
  go_loopg [6, 20] q (fun r s6 s20 wr => ∃ (t : Nat) (a6 : Option Addr) (c6 : Nat), r = q - t ∧ t ≤ q ∧ s6 = .slice a6 t c6 ∧ s20 = .int .i64 (t : Int) ∧ PRow wr (w.heap.size + 1) (.slice a6 t c6) (partsL num n S (A.take t)) ∧ Blk wr w.heap.size 30 #[.int .i64 num, .slice ap n cp, .slice ac m cc] ∧ VOwn wr (w.heap.size + 1) 3 (.slice a k c) k (ints A) ∧ Below w.heap.size w wr ∧ w.heap.size + 1 ≤ wr.heap.size)
  case atStart => exact ⟨0, none, 0, rfl, by omega, rfl, rfl, PRow.nil _ _, X2, by rw [← s0]; exact O2, BB2, by have := B2.size; omega⟩
  case round =>
  obtain ⟨t, a6, c6, rfl, ht, rfl, rfl, P6, X, O, B, zr⟩ := hrel
  clear X0 X2 B0 B2 BB2 O2 hO L hw0
  by_cases d1 : t < q
  case neg =>
    obtain rfl : t = q := by omega
    go_wp2_with fail
    go_ret
    exact ⟨a6, c6, rfl, P6.base (by omega), B⟩
  have d1' : (t : Int) < (q : Int) := by omega
  obtain ⟨g, c0, cur, hv, hg, hh, hlt⟩ := O.block (by omega)
  injection hv with hv1 hv2 hv3
  subst hv1
  clear hv2 hv3 c0 hh cur
  have kt : wr.cell? ⟨g, t, none⟩ = some (.int .i64 (el A t)) := by
    rw [World.ownsRow.cellAt O t (by omega), ints_get (by omega)]
  have hi := HQ.out t (by omega)
  have PA := HS.out.below B
  obtain ⟨bp, op, rfl, kp⟩ := PA.cells (by omega)
  obtain ⟨i, hi2⟩ : ∃ i : Nat, (i : Int) = el A t := ⟨(el A t).toNat, by omega⟩
  have hin : i < n := by omega
  have kq := kp i hin
  rw [strs_get (by omega)] at kq
  clear kp
  have CL := fun W => clone_any (se S i) W (by have := se_size hz i; omega)
  have HSn : Hid (partsL num n S (A.take (t + 1)) = partsL num n S (A.take t) ++ [partR num i n (se S i)]) := by
    show _ = _
    rw [partsL_snoc num n S A t (by omega), ← hi2]
    rfl
  have hpl : (partsL num n S (A.take t)).length = t := by rw [partsL_len, List.length_take]; omega
  rw [← hi2] at kt
  clear hi hi2 PA
  have k0 : wr.cell? ⟨w.heap.size, 0, none⟩ = some (.int .i64 num) := X.cell 0 rfl
  have k1 : wr.cell? ⟨w.heap.size, 1, none⟩ = some (.slice (some ⟨bp, op, none⟩) n cp) := X.cell 1 rfl
  have ne1 : ∀ g', g' < w.heap.size + 1 → some g' ≠ (Value.slice a6 t c6).ownBlock := fun g' hg' e => by have := (World.ownsRow.lt P6.own g' e.symm).1; omega
  have ne2 : some g ≠ (Value.slice a6 t c6).ownBlock := fun e => by
    rcases P6.own.2 with ⟨h2, _⟩ | ⟨g2, cap, cur, h3, _, h5, _⟩
    · rw [h2] at e; cases e
    · rw [h3] at e
      cases e
      rcases O.2 with ⟨h2, _⟩ | ⟨g3, cap', cur', h3', _, h5', _⟩
      · cases h2
      · injection h3' with e1 _ _
        injection e1 with e1
        injection e1 with e1
        subst e1
        rw [h5] at h5'
        injection h5' with h6
        injection h6 with _ h7 _
        exact absurd h7 (by decide)
  generalize se S i = x at *
  go_upto_region 7 with fail
  go_region_law (first
    | (refine step_append_part rfl (.tmp 24) (.tmp 38) rfl (w.heap.size + 1) (.slice a6 t c6) (partsL num n S (A.take t)) (by first | rfl | simp [Act.eval, Act.put]) (by exact P3) w2.heap.size num i n x (by first | rfl | simp [Act.eval, Act.put]) (by exact Y3) (by omega) (by omega) ?_; intro a7 c7 w7 P7 B7 G7; rw [hpl] at *)
    | (go_simp; first
      | (go_at_call 15; refine (CL _).mono ?_; rintro e w2 ⟨rfl, B2⟩; replace B2 : Below wr.heap.size wr w2 := below_then (Below.refl wr.heap.size wr).drew B2; have z2 := B2.size; have X2 := X.below B2; have P2 := P6.below B2; have O2 := VOwn.below O B2; have BB2 := below_then B B2; have j0 : w2.cell? ⟨w.heap.size, 0, none⟩ = some (.int .i64 num) := X2.cell 0 rfl; have j1 : w2.cell? ⟨w.heap.size, 1, none⟩ = some (.slice (some ⟨bp, op, none⟩) n cp) := X2.cell 1 rfl; have Y3 := blk_new w2 40 #[.int .i64 num, .int .i64 (i : Int), .int .i64 (n : Int), .string x]; have B3 := belowA w2 (.cells #[.int .i64 num, .int .i64 (i : Int), .int .i64 (n : Int), .string x] 40); have X3 := X2.below B3; have P3 := P2.below B3; have O3 := VOwn.below O2 B3; have BB3 := below_then BB2 B3; have z3 := B3.size)))
  all_goals
    go_wp2_with fail
    go_roundg (q - (t + 1))
    case measure => omega
    case rel => exact ⟨t + 1, a7, c7, rfl, by omega, rfl, by go_num, by rw [HSn.out]; exact P7, X3.of_block (G7.block _ X3.lt (ne1 _ (by omega))), VOwn.of_block O3 (fun g' h1 _ h3 => by cases h1; exact G7.block _ h3 ne2), BB3.trans (B7.mono (by omega)), by have := B7.size; omega⟩
end Go.Proofs.YtdopcagikcdfcaaDoor
