/- The document's Check and Same of messages. Condition: the tokens can be read. -/
import Derived.Test.YtmoohnpffohgeaaDoorWrRef
namespace Go.Proofs.YtmoohnpffohgeaaDoor
open Go.ChangeShapes Go.WideShapes Go.ChangeAt Go.RowKit
/-- The end of the document's Check. -/
def RchR (g : Nat → Int) (A : List Int) (tl : Nat) (w : World) (e : Ending) (w' : World) : Prop := e = .returned (.tuple #[.int .i64 ((chkN g A tl).1 : Int), .int .i64 (chkN g A tl).2]) ∧ Below w.heap.size w w'
theorem RchR.of {g : Nat → Int} {A : List Int} {tl : Nat} {w w' : World} {n : Nat} {q : Int} (h : chkN g A tl = (n, q)) (hb : Below w.heap.size w w') : RchR g A tl w (.returned (.tuple #[.int .i64 (n : Int), .int .i64 q])) w' := by
  refine ⟨?_, hb⟩
  rw [h]
/-- Are the ten numbers the same? -/
def samG (g h : Nat → Int) : Bool := (List.range 10).all fun i => g i == h i
theorem samG_iff (g h : Nat → Int) : samG g h = true ↔ ∀ i, i < 10 → g i = h i := by
  unfold samG
  rw [List.all_eq_true]
  constructor
  · intro H i hi
    simpa using H i (by simpa using hi)
  · intro H i hi
    simpa using H i (by simpa using hi)

theorem part10_0 (g : Nat → Int) (W : World) : (part 3 #[.int .i64 (g 0), .int .i64 (g 1), .int .i64 (g 2), .int .i64 (g 3), .int .i64 (g 4), .int .i64 (g 5), .int .i64 (g 6), .int .i64 (g 7), .int .i64 (g 8), .int .i64 (g 9)] 0).run Tryd.prog W = .ok (.int .i64 (g 0)) W := by kernel_rfl
theorem part10_1 (g : Nat → Int) (W : World) : (part 3 #[.int .i64 (g 0), .int .i64 (g 1), .int .i64 (g 2), .int .i64 (g 3), .int .i64 (g 4), .int .i64 (g 5), .int .i64 (g 6), .int .i64 (g 7), .int .i64 (g 8), .int .i64 (g 9)] 1).run Tryd.prog W = .ok (.int .i64 (g 1)) W := by kernel_rfl
theorem part10_2 (g : Nat → Int) (W : World) : (part 3 #[.int .i64 (g 0), .int .i64 (g 1), .int .i64 (g 2), .int .i64 (g 3), .int .i64 (g 4), .int .i64 (g 5), .int .i64 (g 6), .int .i64 (g 7), .int .i64 (g 8), .int .i64 (g 9)] 2).run Tryd.prog W = .ok (.int .i64 (g 2)) W := by kernel_rfl
theorem part10_3 (g : Nat → Int) (W : World) : (part 3 #[.int .i64 (g 0), .int .i64 (g 1), .int .i64 (g 2), .int .i64 (g 3), .int .i64 (g 4), .int .i64 (g 5), .int .i64 (g 6), .int .i64 (g 7), .int .i64 (g 8), .int .i64 (g 9)] 3).run Tryd.prog W = .ok (.int .i64 (g 3)) W := by kernel_rfl
theorem part10_4 (g : Nat → Int) (W : World) : (part 3 #[.int .i64 (g 0), .int .i64 (g 1), .int .i64 (g 2), .int .i64 (g 3), .int .i64 (g 4), .int .i64 (g 5), .int .i64 (g 6), .int .i64 (g 7), .int .i64 (g 8), .int .i64 (g 9)] 4).run Tryd.prog W = .ok (.int .i64 (g 4)) W := by kernel_rfl
theorem part10_5 (g : Nat → Int) (W : World) : (part 3 #[.int .i64 (g 0), .int .i64 (g 1), .int .i64 (g 2), .int .i64 (g 3), .int .i64 (g 4), .int .i64 (g 5), .int .i64 (g 6), .int .i64 (g 7), .int .i64 (g 8), .int .i64 (g 9)] 5).run Tryd.prog W = .ok (.int .i64 (g 5)) W := by kernel_rfl
theorem part10_6 (g : Nat → Int) (W : World) : (part 3 #[.int .i64 (g 0), .int .i64 (g 1), .int .i64 (g 2), .int .i64 (g 3), .int .i64 (g 4), .int .i64 (g 5), .int .i64 (g 6), .int .i64 (g 7), .int .i64 (g 8), .int .i64 (g 9)] 6).run Tryd.prog W = .ok (.int .i64 (g 6)) W := by kernel_rfl
theorem part10_7 (g : Nat → Int) (W : World) : (part 3 #[.int .i64 (g 0), .int .i64 (g 1), .int .i64 (g 2), .int .i64 (g 3), .int .i64 (g 4), .int .i64 (g 5), .int .i64 (g 6), .int .i64 (g 7), .int .i64 (g 8), .int .i64 (g 9)] 7).run Tryd.prog W = .ok (.int .i64 (g 7)) W := by kernel_rfl
theorem part10_8 (g : Nat → Int) (W : World) : (part 3 #[.int .i64 (g 0), .int .i64 (g 1), .int .i64 (g 2), .int .i64 (g 3), .int .i64 (g 4), .int .i64 (g 5), .int .i64 (g 6), .int .i64 (g 7), .int .i64 (g 8), .int .i64 (g 9)] 8).run Tryd.prog W = .ok (.int .i64 (g 8)) W := by kernel_rfl
theorem part10_9 (g : Nat → Int) (W : World) : (part 3 #[.int .i64 (g 0), .int .i64 (g 1), .int .i64 (g 2), .int .i64 (g 3), .int .i64 (g 4), .int .i64 (g 5), .int .i64 (g 6), .int .i64 (g 7), .int .i64 (g 8), .int .i64 (g 9)] 9).run Tryd.prog W = .ok (.int .i64 (g 9)) W := by kernel_rfl
theorem part10 (g : Nat → Int) (k : Nat) (hk : k < 10) (W : World) : (part 3 #[.int .i64 (g 0), .int .i64 (g 1), .int .i64 (g 2), .int .i64 (g 3), .int .i64 (g 4), .int .i64 (g 5), .int .i64 (g 6), .int .i64 (g 7), .int .i64 (g 8), .int .i64 (g 9)] (k * 1)).run Tryd.prog W = .ok (.int .i64 (g k)) W := by
  rw [Nat.mul_one]
  have : k = 0 ∨ k = 1 ∨ k = 2 ∨ k = 3 ∨ k = 4 ∨ k = 5 ∨ k = 6 ∨ k = 7 ∨ k = 8 ∨ k = 9 := by omega
  rcases this with rfl | rfl | rfl | rfl | rfl | rfl | rfl | rfl | rfl | rfl
  · exact part10_0 g W
  · exact part10_1 g W
  · exact part10_2 g W
  · exact part10_3 g W
  · exact part10_4 g W
  · exact part10_5 g W
  · exact part10_6 g W
  · exact part10_7 g W
  · exact part10_8 g W
  · exact part10_9 g W
theorem items10 (g h : Nat → Int) (W : World) : ∀ is : List Nat, (∀ i ∈ is, i < 10) → (Op.eqItems 9999 3 1 #[.int .i64 (g 0), .int .i64 (g 1), .int .i64 (g 2), .int .i64 (g 3), .int .i64 (g 4), .int .i64 (g 5), .int .i64 (g 6), .int .i64 (g 7), .int .i64 (g 8), .int .i64 (g 9)] #[.int .i64 (h 0), .int .i64 (h 1), .int .i64 (h 2), .int .i64 (h 3), .int .i64 (h 4), .int .i64 (h 5), .int .i64 (h 6), .int .i64 (h 7), .int .i64 (h 8), .int .i64 (h 9)] is).run Tryd.prog W = .ok (is.all fun i => g i == h i) W
  | [], _ => by simp [Op.eqItems]
  | i :: is, hi => by
    have ih := items10 g h W is (fun j hj => hi j (by simp [hj]))
    simp only [Op.eqItems, Sem.run_bind, part10 g i (hi i (by simp)), part10 h i (hi i (by simp)), Result.andThen_ok, run_equalIn_int W 9998 3 .i64 .i64 (g i) (h i) Tryd.underlying3, List.all_cons]
    cases hb : (g i == h i)
    · simp
    · simp only [Bool.not_true, Bool.false_eq_true, if_false, Bool.true_and]
      exact ih
theorem neq10 (g h : Nat → Int) (W : World) : (binOp .neq 38 (.agg #[.int .i64 (g 0), .int .i64 (g 1), .int .i64 (g 2), .int .i64 (g 3), .int .i64 (g 4), .int .i64 (g 5), .int .i64 (g 6), .int .i64 (g 7), .int .i64 (g 8), .int .i64 (g 9)]) (.agg #[.int .i64 (h 0), .int .i64 (h 1), .int .i64 (h 2), .int .i64 (h 3), .int .i64 (h 4), .int .i64 (h 5), .int .i64 (h 6), .int .i64 (h 7), .int .i64 (h 8), .int .i64 (h 9)])).run Tryd.prog W = .ok (.bool (!samG g h)) W := by
  obtain ⟨i0, hi, hz0, hz1, hz2⟩ := info_parts Tryd.infoInt
  rw [run_neq_struct, run_equalIn_array W 9999 (e := 3) (n := 10) (i := i0) #[.int .i64 (g 0), .int .i64 (g 1), .int .i64 (g 2), .int .i64 (g 3), .int .i64 (g 4), .int .i64 (g 5), .int .i64 (g 6), .int .i64 (g 7), .int .i64 (g 8), .int .i64 (g 9)] #[.int .i64 (h 0), .int .i64 (h 1), .int .i64 (h 2), .int .i64 (h 3), .int .i64 (h 4), .int .i64 (h 5), .int .i64 (h 6), .int .i64 (h 7), .int .i64 (h 8), .int .i64 (h 9)] Tryd.underlying38 hi]
  rw [show Tryd.prog.cellsOf 3 = 1 by kernel_rfl, items10 g h W (List.range 10) (fun i hi => by simpa using hi)]
  rfl
/-- Are two messages the same? -/
def samM (g : Nat → Int) (A : List Int) (t : ByteArray) (h : Nat → Int) (A' : List Int) (t' : ByteArray) : Bool := samG g h && decide (t = t') && decide (A = A')
theorem samM_refl (g : Nat → Int) (A : List Int) (t : ByteArray) : samM g A t g A t = true := by
  unfold samM
  rw [(samG_iff g g).2 (fun _ _ => rfl)]
  simp
theorem samM_iff (g : Nat → Int) (A : List Int) (t : ByteArray) (h : Nat → Int) (A' : List Int) (t' : ByteArray) : samM g A t h A' t' = true ↔ (∀ i, i < 10 → g i = h i) ∧ t = t' ∧ A = A' := by
  unfold samM
  rw [Bool.and_eq_true, Bool.and_eq_true, samG_iff, decide_eq_true_iff, decide_eq_true_iff, and_assoc]
set_option maxRecDepth 20000 in
set_option maxHeartbeats 2000000 in
theorem same_any (g : Nat → Int) (ao : Option Addr) (n ca : Nat) (A : List Int) (t : ByteArray) (h : Nat → Int) (ao' : Option Addr) (n' ca' : Nat) (A' : List Int) (t' : ByteArray) (w : World) (hA : IArg w ao n ca A) (hA' : IArg w ao' n' ca' A') (hn : n ≤ 1000000) (hn' : n' ≤ 1000000) :
   Calls Tryd.prog 13 #[msgV g (.slice ao n ca) t, msgV h (.slice ao' n' ca') t'] w fun e w' => e = .returned (.bool (samM g A t h A' t')) ∧ Below w.heap.size w w' := by
  have X0 := blk_new w 40 (msgC g (.slice ao n ca) t)
  have B0 : Below w.heap.size w (w.alloc (.cells (msgC g (.slice ao n ca) t) 40)) := below_alloc _ _
  generalize hw0 : w.alloc (.cells (msgC g (.slice ao n ca) t) 40) = w0 at *
  have X1 := blk_new w0 40 (msgC h (.slice ao' n' ca') t')
  have B1 : Below w0.heap.size w0 (w0.alloc (.cells (msgC h (.slice ao' n' ca') t') 40)) := below_alloc _ _
  generalize hw1 : w0.alloc (.cells (msgC h (.slice ao' n' ca') t') 40) = w1 at *
  replace X0 := X0.next B1
  have D := below_then B0 B1
  have R0 := ten_at X0
  have R1 := ten_at X1
  have nq := neq10 g h
  have c10 : w1.cell? ⟨w.heap.size, 10, none⟩ = some (.slice ao n ca) := X0.cell 10 rfl
  have c11 : w1.cell? ⟨w.heap.size, 11, none⟩ = some (.string t) := X0.cell 11 rfl
  have d10 : w1.cell? ⟨w0.heap.size, 10, none⟩ = some (.slice ao' n' ca') := X1.cell 10 rfl
  have d11 : w1.cell? ⟨w0.heap.size, 11, none⟩ = some (.string t') := X1.cell 11 rfl
  have hl := hA.row.len
  have hl' := hA'.row.len
  replace hA := hA.below D
  replace hA' := hA'.below D
  clear B0 B1 X0 X1
  by_cases q1 : samG g h = true
  rotate_left
  · have q1' : samG g h = false := by simpa using q1
    have HM : Hid (samM g A t h A' t' = false) := by show _ = _; unfold samM; rw [q1']; rfl
    rw [q1'] at nq
    clear hA hA' hl hl' q1 q1'
    go_enter Tryd.func13, Tryd.ntmps13
    go_wp2_with (first
      | (refine wpList_load_mid rfl 38 _ rfl w.heap.size 0 rfl [.int .i64 (g 0), .int .i64 (g 1), .int .i64 (g 2), .int .i64 (g 3), .int .i64 (g 4), .int .i64 (g 5), .int .i64 (g 6), .int .i64 (g 7), .int .i64 (g 8), .int .i64 (g 9)] _ R0 Tryd.underlying38 rfl Tryd.infoTen ?_)
      | (refine wpList_load_mid rfl 38 _ rfl w0.heap.size 0 rfl [.int .i64 (h 0), .int .i64 (h 1), .int .i64 (h 2), .int .i64 (h 3), .int .i64 (h 4), .int .i64 (h 5), .int .i64 (h 6), .int .i64 (h 7), .int .i64 (h 8), .int .i64 (h 9)] _ R1 Tryd.underlying38 rfl Tryd.infoTen ?_))
    go_ret
    rw [HM.out]
    exact ⟨rfl, D⟩
  have HG : Hid (samG g h = true) := q1
  rw [q1] at nq
  clear q1
  by_cases q2 : t = t'
  rotate_left
  · have HM : Hid (samM g A t h A' t' = false) := by show _ = _; unfold samM; rw [decide_eq_false q2]; simp
    have ne := txt_ne q2
    clear hA hA' hl hl' q2
    go_enter Tryd.func13, Tryd.ntmps13
    go_wp2_with (first
      | (refine wpList_load_mid rfl 38 _ rfl w.heap.size 0 rfl [.int .i64 (g 0), .int .i64 (g 1), .int .i64 (g 2), .int .i64 (g 3), .int .i64 (g 4), .int .i64 (g 5), .int .i64 (g 6), .int .i64 (g 7), .int .i64 (g 8), .int .i64 (g 9)] _ R0 Tryd.underlying38 rfl Tryd.infoTen ?_)
      | (refine wpList_load_mid rfl 38 _ rfl w0.heap.size 0 rfl [.int .i64 (h 0), .int .i64 (h 1), .int .i64 (h 2), .int .i64 (h 3), .int .i64 (h 4), .int .i64 (h 5), .int .i64 (h 6), .int .i64 (h 7), .int .i64 (h 8), .int .i64 (h 9)] _ R1 Tryd.underlying38 rfl Tryd.infoTen ?_))
    go_ret
    rw [HM.out]
    exact ⟨rfl, D⟩
  subst q2
  by_cases q3 : n = n'
  rotate_left
  · have HM : Hid (samM g A t h A' t = false) := by
      show _ = _
      unfold samM
      rw [show decide (A = A') = false from decide_eq_false (fun e => q3 (by rw [← hl, ← hl', e]))]
      simp
    have q3' : ¬ (n : Int) = (n' : Int) := by omega
    clear hA hA' hl hl' q3
    go_enter Tryd.func13, Tryd.ntmps13
    go_wp2_with (first
      | (refine wpList_load_mid rfl 38 _ rfl w.heap.size 0 rfl [.int .i64 (g 0), .int .i64 (g 1), .int .i64 (g 2), .int .i64 (g 3), .int .i64 (g 4), .int .i64 (g 5), .int .i64 (g 6), .int .i64 (g 7), .int .i64 (g 8), .int .i64 (g 9)] _ R0 Tryd.underlying38 rfl Tryd.infoTen ?_)
      | (refine wpList_load_mid rfl 38 _ rfl w0.heap.size 0 rfl [.int .i64 (h 0), .int .i64 (h 1), .int .i64 (h 2), .int .i64 (h 3), .int .i64 (h 4), .int .i64 (h 5), .int .i64 (h 6), .int .i64 (h 7), .int .i64 (h 8), .int .i64 (h 9)] _ R1 Tryd.underlying38 rfl Tryd.infoTen ?_))
    go_ret
    rw [HM.out]
    exact ⟨rfl, D⟩
  subst q3
  have HM : Hid (samM g A t h A' t = decide (A = A')) := by show _ = _; unfold samM; rw [HG.out]; simp
  clear HG
  go_enter Tryd.func13, Tryd.ntmps13
  go_wp2_with (first
    | (refine wpList_load_mid rfl 38 _ rfl w.heap.size 0 rfl [.int .i64 (g 0), .int .i64 (g 1), .int .i64 (g 2), .int .i64 (g 3), .int .i64 (g 4), .int .i64 (g 5), .int .i64 (g 6), .int .i64 (g 7), .int .i64 (g 8), .int .i64 (g 9)] _ R0 Tryd.underlying38 rfl Tryd.infoTen ?_)
    | (refine wpList_load_mid rfl 38 _ rfl w0.heap.size 0 rfl [.int .i64 (h 0), .int .i64 (h 1), .int .i64 (h 2), .int .i64 (h 3), .int .i64 (h 4), .int .i64 (h 5), .int .i64 (h 6), .int .i64 (h 7), .int .i64 (h 8), .int .i64 (h 9)] _ R1 Tryd.underlying38 rfl Tryd.infoTen ?_))
  clear R0 R1 nq hw0 hw1
  go_loopg [30] n (fun r i wr => ∃ k : Nat, ∃ d : Nat, k ≤ n ∧ r = n - k ∧ (∀ j, j < k → el A j = el A' j) ∧ i = .int .i64 (k : Int) ∧ wr = w1.drewN d)
  case atStart => exact ⟨0, 0, by omega, by omega, fun j hj => by omega, rfl, rfl⟩
  case round =>
    obtain ⟨k, d, hk, rfl, hj, rfl, rfl⟩ := hrel
    have D2 : Below w.heap.size w (w1.drewN d) := below_drewN D d
    by_cases hk1 : k < n
    · obtain ⟨b, o, rfl, hc⟩ := hA.row.cells (by omega)
      obtain ⟨b', o', rfl, hc'⟩ := hA'.row.cells (by omega)
      have x0 := hc k hk1
      have x1 := hc' k hk1
      have s0 := hA.row.small k
      have s1 := hA'.row.small k
      have HJ : Hid (el A k = el A' k → ∀ j, j < k + 1 → el A j = el A' j) := fun e j hj2 => by
        rcases Nat.lt_or_ge j k with q | q
        · exact hj j q
        · obtain rfl : j = k := by omega
          exact e
      clear hj hc hc'
      by_cases e : el A k = el A' k
      · have HE : Hid (el A k = el A' k) := e
        rw [← e] at x1
        generalize el A k = x at x0 x1 s0
        clear s1 e
        go_wp2_with fail
        go_quiet (fail)
        go_wp2_with fail
        go_roundg (n - (k + 1))
        case measure => omega
        case rel => exact ⟨k + 1, _, by omega, rfl, HJ.out HE.out, by go_num, by first | rfl | exact World.drewN_drewN _ _ _⟩
      · have HF : Hid (decide (A = A') = false) := decide_eq_false (fun q => e (by rw [q]))
        generalize el A k = x at x0 e s0
        generalize el A' k = y at x1 e s1
        go_wp2_with fail
        go_quiet (fail)
        go_wp2_with fail
        go_ret
        rw [HM.out, HF.out]
        exact ⟨rfl, by first | exact below_drewN D _ | exact below_drewN D2 _⟩
    · obtain rfl : k = n := by omega
      have HF : Hid (decide (A = A') = true) := by
        show _ = _
        rw [decide_eq_true_iff]
        apply List.ext_getElem (by omega)
        intro i h1 h2
        have := hj i (by omega)
        unfold el at this
        rw [List.getD_eq_getElem?_getD, List.getD_eq_getElem?_getD, List.getElem?_eq_getElem h1, List.getElem?_eq_getElem h2] at this
        simpa using this
      clear hj
      go_wp2_with fail
      go_ret
      rw [HM.out, HF.out]
      exact ⟨rfl, D2⟩
end Go.Proofs.YtmoohnpffohgeaaDoor
