/- The document's recv: parts that came, as a row. -/
import Derived.Test.YtcnkjkmmngckgaaRcMath
namespace Go.Proofs.Ytcnkjkmmngckgaa
open Go.ChangeShapes Go.WideShapes Go.ChangeAt Go.RowKit
theorem Try.infoRf : (Try.prog.info? 33).map (·.size) = some 3 := by kernel_rfl
theorem Try.infoCm : (Try.prog.info? 51).map (fun i => (i.zero, i.size, i.bytes)) = some (some (.agg #[.int .i64 0, .string ⟨#[]⟩]), 2, 24) := by kernel_rfl
theorem Try.infoCmS : (Try.prog.info? 51).map (·.size) = some 2 := by kernel_rfl
theorem load_rf {w : World} {g : Nat} {a b c : Value} (h : Blk w g 33 #[a, b, c]) : (loadVar 33 ⟨g, 0, none⟩).run Try.prog w = .ok (.agg #[a, b, c]) w :=
  run_loadVar_row w g _ _ _ _ _ h Try.underlying33 rfl Try.infoRf
theorem rfall (num of : Int) (a : Option Addr) (n c : Nat) : Array.all (#[.int .i64 num, .int .i64 of, .slice a n c] : Array Value) (fun v => v.oneCell') = true := by simp [Value.oneCell']
theorem cmall (x : Int) (t : ByteArray) : Array.all (#[.int .i64 x, .string t] : Array Value) (fun v => v.oneCell') = true := by simp [Value.oneCell']
/-- The cells of a row of parts that came. -/
def flatC (R : List (Int × ByteArray)) : List Value := R.flatMap (fun x => [.int .i64 x.1, .string x.2])
theorem flatC_len : ∀ R : List (Int × ByteArray), (flatC R).length = R.length * 2
  | [] => rfl
  | x :: R => by
    have h := flatC_len R
    unfold flatC at *
    rw [List.flatMap_cons, List.length_append, h, List.length_cons]
    simp
    omega
theorem flatC_get : ∀ (R : List (Int × ByteArray)) (t : Nat) (h : t < R.length), (flatC R)[t * 2]? = some (.int .i64 R[t].1) ∧ (flatC R)[t * 2 + 1]? = some (.string R[t].2)
  | [], t, h => by simp at h
  | x :: R, 0, _ => by unfold flatC; rw [List.flatMap_cons]; exact ⟨rfl, rfl⟩
  | x :: R, t + 1, h => by
    have ih := flatC_get R t (by simpa using h)
    unfold flatC at *
    rw [List.flatMap_cons, show (t + 1) * 2 = t * 2 + 2 by omega, show t * 2 + 2 + 1 = t * 2 + 1 + 2 by omega]
    exact ih
theorem flatC_one (R : List (Int × ByteArray)) : ∀ u ∈ flatC R, u.oneCell' = true := by
  intro u hu
  unfold flatC at hu
  rw [List.mem_flatMap] at hu
  obtain ⟨x, _, h⟩ := hu
  simp only [List.mem_cons, List.not_mem_nil, or_false] at h
  rcases h with rfl | rfl <;> rfl
theorem flatC_snoc (R : List (Int × ByteArray)) (x : Int) (t : ByteArray) : flatC (R ++ [(x, t)]) = flatC R ++ [.int .i64 x, .string t] := by unfold flatC; rw [List.flatMap_append]; rfl
/-- A slice whose cells read as R. -/
structure CArg (w : World) (ao : Option Addr) (n ca : Nat) (R : List (Int × ByteArray)) : Prop where
  len : R.length = n
  fit : n ≤ ca
  max : ca ≤ 9223372036854775807
  nil : ao = none → ca = 0
  cells : 0 < n → ∃ b o, ao = some ⟨b, o, none⟩ ∧ ∀ t, t < n * 2 → w.cell? ⟨b, o + t, none⟩ = (flatC R)[t]?
theorem CArg.below {w w' : World} {ao : Option Addr} {n ca : Nat} {R : List (Int × ByteArray)} (h : CArg w ao n ca R) (hb : Below w.heap.size w w') : CArg w' ao n ca R := by
  refine ⟨h.len, h.fit, h.max, h.nil, fun hn => ?_⟩
  obtain ⟨b, o, e, hc⟩ := h.cells hn
  refine ⟨b, o, e, fun t ht => ?_⟩
  have h1 := hc t ht
  have hl := h.len
  rw [List.getElem?_eq_getElem (by rw [flatC_len]; omega)] at h1
  have hlt : b < w.heap.size := by simpa using World.block_lt_of_cell? w _ h1
  rw [hb.cell (by exact hlt)]
  exact hc t ht
theorem CArg.of_block {w w' : World} {ao : Option Addr} {n ca : Nat} {R : List (Int × ByteArray)} (h : CArg w ao n ca R) (hb : ∀ b o s, ao = some ⟨b, o, s⟩ → w'.heap[b]? = w.heap[b]?) : CArg w' ao n ca R := by
  refine ⟨h.len, h.fit, h.max, h.nil, fun hn => ?_⟩
  obtain ⟨b, o, e, hc⟩ := h.cells hn
  refine ⟨b, o, e, fun t ht => ?_⟩
  have h2 := hb b o none e
  rw [← hc t ht]
  unfold World.cell?
  simp only [h2]
theorem CArg.at {w : World} {ao : Option Addr} {n ca : Nat} {R : List (Int × ByteArray)} (h : CArg w ao n ca R) {t : Nat} (ht : t < R.length) : ∃ b o, ao = some ⟨b, o, none⟩ ∧ w.cell? ⟨b, o + t * 2, none⟩ = some (.int .i64 R[t].1) ∧ w.cell? ⟨b, o + t * 2 + 1, none⟩ = some (.string R[t].2) := by
  have hl := h.len
  obtain ⟨b, o, e, hc⟩ := h.cells (by omega)
  obtain ⟨g1, g2⟩ := flatC_get R t ht
  exact ⟨b, o, e, (hc (t * 2) (by omega)).trans g1, by rw [Nat.add_assoc]; exact (hc (t * 2 + 1) (by omega)).trans g2⟩
theorem carg_nil (w : World) : CArg w none 0 0 [] := ⟨rfl, by omega, by omega, fun _ => rfl, fun h => by omega⟩
theorem CArg.vals {w : World} {ad : Addr} {n ca : Nat} {R : List (Int × ByteArray)} (h : CArg w (some ad) n ca R) : ∀ j u, (flatC R)[j]? = some u → w.cell? (ad.add j) = some u := by
  intro j u hj
  have hl := h.len
  have hjm : j < n * 2 := by
    have := (List.getElem?_eq_some_iff.1 hj).1
    rw [flatC_len] at this
    omega
  obtain ⟨b, o', e, hcell⟩ := h.cells (by omega)
  simp only [Option.some.injEq] at e
  subst e
  have e2 : (Addr.mk b o' none).add j = ⟨b, o' + j, none⟩ := by simp [Addr.add]
  rw [e2, hcell j hjm, hj]
/-- Such a row of the call's own. -/
def COwn (w : World) (B : Nat) (v : Value) (R : List (Int × ByteArray)) : Prop := w.ownsRow B 51 2 v R.length (flatC R)
theorem COwn.arg {w : World} {B : Nat} {v : Value} {R : List (Int × ByteArray)} (h : COwn w B v R) : ∃ ao c, v = .slice ao R.length c ∧ CArg w ao R.length c R := by
  rcases h.2 with ⟨h3, h4⟩ | ⟨g, cap, cur, hv, hg, hh, h5, h6, h7, h8⟩
  · have h4' : R = [] := List.length_eq_zero_iff.1 h4
    subst h4'
    exact ⟨none, 0, h3, carg_nil w⟩
  · subst hv
    have hm : cap ≤ 9223372036854775807 := by simpa [maxLen] using h6
    refine ⟨_, _, rfl, rfl, h5, hm, fun h => (by cases h), fun hn => ⟨g, 0, rfl, fun t ht => ?_⟩⟩
    rw [Nat.zero_add]
    exact World.ownsRow.cellAt h t (by omega)
theorem COwn.of_block {w w' : World} {B : Nat} {v : Value} {R : List (Int × ByteArray)} (h : COwn w B v R) (hb : ∀ g, B ≤ g → g < w.heap.size → w'.heap[g]? = w.heap[g]?) : COwn w' B v R := by
  refine ⟨h.1, ?_⟩
  rcases h.2 with h2 | ⟨g, cap, cur, h3, h4, h5, h6⟩
  · exact Or.inl h2
  · exact Or.inr ⟨g, cap, cur, h3, h4, (hb g h4 (Array.getElem?_eq_some_iff.1 h5).1).trans h5, h6⟩
/-- The text of a part that came. -/
def findC (R : List (Int × ByteArray)) (x : Int) : Option ByteArray := (R.find? (fun p => decide (p.1 = x))).map (·.2)
theorem findC_at {R : List (Int × ByteArray)} {x : Int} {j : Nat} (hlt : j < R.length) (h : ∀ y ∈ R.take j, y.1 ≠ x) (e : R[j].1 = x) : findC R x = some R[j].2 := by
  unfold findC
  have hs : R = R.take j ++ R[j] :: R.drop (j + 1) := by rw [List.getElem_cons_drop]; exact (List.take_append_drop j R).symm
  have h1 : (R.take j).find? (fun p => decide (p.1 = x)) = none := List.find?_eq_none.2 (fun y hy => by simpa using h y hy)
  have h2 : R.find? (fun p => decide (p.1 = x)) = some R[j] := by
    conv => lhs; rw [hs]
    rw [List.find?_append, h1, List.find?_cons]
    simp [e]
  rw [h2]; rfl
theorem findC_no {R : List (Int × ByteArray)} {x : Int} (h : ∀ y ∈ R, y.1 ≠ x) : findC R x = none := by
  unfold findC
  rw [List.find?_eq_none.2 (fun y hy => by simpa using h y hy)]
  rfl
theorem findC_snoc (R : List (Int × ByteArray)) (x y : Int) (t : ByteArray) : findC (R ++ [(x, t)]) y = match findC R y with
    | some s => some s
    | none => if x = y then some t else none := by
  unfold findC
  rw [List.find?_append]
  cases h : R.find? (fun p => decide (p.1 = y)) with
  | some s => rfl
  | none =>
    by_cases e : x = y
    · simp [e]
    · simp [e]
theorem cvar (W : World) (x : Int) (t : ByteArray) : Blk (W.alloc (.cells #[.int .i64 0, .string ⟨#[]⟩] 51)) W.heap.size 51 #[.int .i64 0, .string ⟨#[]⟩] ∧
    Blk ((W.alloc (.cells #[.int .i64 0, .string ⟨#[]⟩] 51)).setRow W.heap.size #[.int .i64 x, .string t]) W.heap.size 51 #[.int .i64 x, .string t] ∧
    Below W.heap.size W ((W.alloc (.cells #[.int .i64 0, .string ⟨#[]⟩] 51)).setRow W.heap.size #[.int .i64 x, .string t]) :=
  ⟨blk_new _ _ _, (blk_new W _ _).row _, belowR (belowA _ _) (Nat.le_refl _) _⟩
/-- The document's state as a value. -/
def rfV (num of : Int) (v : Value) : Value := .agg #[.int .i64 num, .int .i64 of, v]
set_option maxRecDepth 100000 in
set_option maxHeartbeats 8000000 in
theorem rfind_any (num of x : Int) (ao : Option Addr) (n c : Nat) (R : List (Int × ByteArray)) (w : World) (hR : CArg w ao n c R) (hl : n ≤ 100000) :
   Calls Try.prog 15 #[rfV num of (.slice ao n c), .int .i64 x] w fun e w' => e = .returned (.tuple #[.string ((findC R x).getD ⟨#[]⟩), .bool (findC R x).isSome]) ∧ Below w.heap.size w w' := by
  unfold rfV
  have X0 := blk_new w 33 #[.int .i64 num, .int .i64 of, .slice ao n c]
  have B0 := belowA w (.cells #[.int .i64 num, .int .i64 of, .slice ao n c] 33)
  generalize hw0 : w.alloc (.cells #[.int .i64 num, .int .i64 of, .slice ao n c] 33) = w0 at *
  have k1 : w0.cell? ⟨w.heap.size, 2, none⟩ = some (.slice ao n c) := X0.cell 2 rfl
  have HB : Hid (Below w.heap.size w w0) := B0
  have R1 := hR.below B0
  have hfit := hR.fit
  have hmax := hR.max
  have hlen : R.length = n := hR.len
  clear hR B0
  go_enter Try.func15, Try.ntmps15
  go_wp2_with fail
  go_loopg [11] n (fun gg s11 wr => ∃ j : Nat, j ≤ n ∧ gg = n - j ∧ s11 = .int .i64 (j : Int) ∧ (∀ y ∈ R.take j, y.1 ≠ x) ∧ Below w0.heap.size w0 wr)
  case atStart => exact ⟨0, by omega, by omega, rfl, by simp, Below.refl _ _⟩
  case round =>
  obtain ⟨j, hj, rfl, rfl, hno, BX⟩ := hrel
  have zx := BX.size
  rcases Nat.lt_or_ge j n with hlt | hge
  · have d5 : (j : Int) < (n : Int) := by omega
    have hlt' : j < R.length := by omega
    obtain ⟨g, o, rfl, y0, y1⟩ := (R1.below BX).at hlt'
    have EA : R[j].1 = x → findC R x = some R[j].2 := findC_at hlt' hno
    have EN : R[j].1 ≠ x → ∀ y ∈ R.take (j + 1), y.1 ≠ x := fun h y hy => by
      rw [List.take_succ_eq_append_getElem hlt'] at hy
      rcases List.mem_append.1 hy with h1 | h1
      · exact hno y h1
      · simp only [List.mem_singleton] at h1
        rw [h1]; exact h
    obtain ⟨⟨yp, ya⟩, hy⟩ : ∃ y : Int × ByteArray, y = R[j] := ⟨_, rfl⟩
    rw [← hy] at y0 y1 EA EN
    simp only at y0 y1 EA EN
    have HA : Hid (yp = x → findC R x = some ya) := EA
    have HN : Hid (yp ≠ x → ∀ y ∈ R.take (j + 1), y.1 ≠ x) := EN
    obtain ⟨XAy, XBy, BBy⟩ := cvar wr yp ya
    generalize hwC : wr.alloc (.cells #[.int .i64 0, .string ⟨#[]⟩] 51) = wC at *
    generalize hwD : wC.setRow wr.heap.size #[.int .i64 yp, .string ya] = wD at *
    have v0 : wD.cell? ⟨wr.heap.size, 0, none⟩ = some (.int .i64 yp) := XBy.cell 0 rfl
    have v1 : wD.cell? ⟨wr.heap.size, 1, none⟩ = some (.string ya) := XBy.cell 1 rfl
    clear hy EA EN hno
    have HL : Hid (R.length = n) := hlen
    clear hlen hlt'
    by_cases hyp : yp = x
    · have HY : Hid (yp = x) := hyp
      have hyd : (yp == x) = true := by simp [hyp]
      clear hyp
      go_wp2_with (refine wpList_store_row rfl 51 _ _ rfl wr.heap.size _ rfl rfl 51 _ XAy Try.infoCmS rfl (cmall _ _) ?_; rw [hwD])
      go_ret2
      exact ⟨by rw [HA.out HY.out]; rfl, below_then (below_then HB.out BX) BBy⟩
    · have hyd : (yp == x) = false := by simpa using hyp
      go_wp2_with (refine wpList_store_row rfl 51 _ _ rfl wr.heap.size _ rfl rfl 51 _ XAy Try.infoCmS rfl (cmall _ _) ?_; rw [hwD])
      go_roundg (n - (j + 1))
      case measure => omega
      case rel => exact ⟨j + 1, by omega, rfl, by go_num, HN.out hyp, below_then BX BBy⟩
  · obtain rfl : j = n := by omega
    have HN : Hid (findC R x = none) := findC_no (by rw [← hlen, List.take_length] at hno; exact hno)
    clear hno
    go_wp2_with fail
    go_ret2
    exact ⟨by rw [HN.out]; rfl, below_then HB.out BX⟩
end Go.Proofs.Ytcnkjkmmngckgaa
