/- Messages as values: wire's numbersOf and Check, and the document's. No condition but that the tokens can be read. -/
import Derived.Test.YtdopcagikcdfcaaDoorWrAdd
namespace Go.Proofs.YtdopcagikcdfcaaDoor
open Go.ChangeShapes Go.WideShapes Go.ChangeAt Go.RowKit
abbrev eB (q : Int) (x : Value) : Value := .iface 68 (.agg #[.int .i64 q, x])
/-- A message's cells: its ten numbers, its tokens, its text. -/
abbrev msgC (g : Nat → Int) (tok : Value) (t : ByteArray) : Array Value := #[.int .i64 (g 0), .int .i64 (g 1), .int .i64 (g 2), .int .i64 (g 3), .int .i64 (g 4), .int .i64 (g 5), .int .i64 (g 6), .int .i64 (g 7), .int .i64 (g 8), .int .i64 (g 9), tok, .string t]
abbrev msgV (g : Nat → Int) (tok : Value) (t : ByteArray) : Value := .agg #[.int .i64 (g 0), .int .i64 (g 1), .int .i64 (g 2), .int .i64 (g 3), .int .i64 (g 4), .int .i64 (g 5), .int .i64 (g 6), .int .i64 (g 7), .int .i64 (g 8), .int .i64 (g 9), tok, .string t]
/-- The document's message. -/
abbrev refV (g : Nat → Int) (tok : Value) (t : ByteArray) : Value := .agg #[.agg #[.int .i64 (g 0), .int .i64 (g 1), .int .i64 (g 2), .int .i64 (g 3), .int .i64 (g 4), .int .i64 (g 5), .int .i64 (g 6), .int .i64 (g 7), .int .i64 (g 8), .int .i64 (g 9)], tok, .string t]
theorem Tryd.infoMsg : (Tryd.prog.info? 50).map (·.size) = some 12 := by kernel_rfl
theorem Tryd.infoTen : (Tryd.prog.info? 63).map (·.size) = some 10 := by kernel_rfl
theorem idx10_0 (g : Nat → Int) (W : World) : (Instr.index 63 (.agg #[.int .i64 (g 0), .int .i64 (g 1), .int .i64 (g 2), .int .i64 (g 3), .int .i64 (g 4), .int .i64 (g 5), .int .i64 (g 6), .int .i64 (g 7), .int .i64 (g 8), .int .i64 (g 9)]) (.int .i64 0)).run Tryd.prog W = .ok (.int .i64 (g 0)) W := by kernel_rfl
theorem idx10_1 (g : Nat → Int) (W : World) : (Instr.index 63 (.agg #[.int .i64 (g 0), .int .i64 (g 1), .int .i64 (g 2), .int .i64 (g 3), .int .i64 (g 4), .int .i64 (g 5), .int .i64 (g 6), .int .i64 (g 7), .int .i64 (g 8), .int .i64 (g 9)]) (.int .i64 1)).run Tryd.prog W = .ok (.int .i64 (g 1)) W := by kernel_rfl
theorem idx10_2 (g : Nat → Int) (W : World) : (Instr.index 63 (.agg #[.int .i64 (g 0), .int .i64 (g 1), .int .i64 (g 2), .int .i64 (g 3), .int .i64 (g 4), .int .i64 (g 5), .int .i64 (g 6), .int .i64 (g 7), .int .i64 (g 8), .int .i64 (g 9)]) (.int .i64 2)).run Tryd.prog W = .ok (.int .i64 (g 2)) W := by kernel_rfl
theorem idx10_3 (g : Nat → Int) (W : World) : (Instr.index 63 (.agg #[.int .i64 (g 0), .int .i64 (g 1), .int .i64 (g 2), .int .i64 (g 3), .int .i64 (g 4), .int .i64 (g 5), .int .i64 (g 6), .int .i64 (g 7), .int .i64 (g 8), .int .i64 (g 9)]) (.int .i64 3)).run Tryd.prog W = .ok (.int .i64 (g 3)) W := by kernel_rfl
theorem idx10_4 (g : Nat → Int) (W : World) : (Instr.index 63 (.agg #[.int .i64 (g 0), .int .i64 (g 1), .int .i64 (g 2), .int .i64 (g 3), .int .i64 (g 4), .int .i64 (g 5), .int .i64 (g 6), .int .i64 (g 7), .int .i64 (g 8), .int .i64 (g 9)]) (.int .i64 4)).run Tryd.prog W = .ok (.int .i64 (g 4)) W := by kernel_rfl
theorem idx10_5 (g : Nat → Int) (W : World) : (Instr.index 63 (.agg #[.int .i64 (g 0), .int .i64 (g 1), .int .i64 (g 2), .int .i64 (g 3), .int .i64 (g 4), .int .i64 (g 5), .int .i64 (g 6), .int .i64 (g 7), .int .i64 (g 8), .int .i64 (g 9)]) (.int .i64 5)).run Tryd.prog W = .ok (.int .i64 (g 5)) W := by kernel_rfl
theorem idx10_6 (g : Nat → Int) (W : World) : (Instr.index 63 (.agg #[.int .i64 (g 0), .int .i64 (g 1), .int .i64 (g 2), .int .i64 (g 3), .int .i64 (g 4), .int .i64 (g 5), .int .i64 (g 6), .int .i64 (g 7), .int .i64 (g 8), .int .i64 (g 9)]) (.int .i64 6)).run Tryd.prog W = .ok (.int .i64 (g 6)) W := by kernel_rfl
theorem idx10_7 (g : Nat → Int) (W : World) : (Instr.index 63 (.agg #[.int .i64 (g 0), .int .i64 (g 1), .int .i64 (g 2), .int .i64 (g 3), .int .i64 (g 4), .int .i64 (g 5), .int .i64 (g 6), .int .i64 (g 7), .int .i64 (g 8), .int .i64 (g 9)]) (.int .i64 7)).run Tryd.prog W = .ok (.int .i64 (g 7)) W := by kernel_rfl
theorem idx10_8 (g : Nat → Int) (W : World) : (Instr.index 63 (.agg #[.int .i64 (g 0), .int .i64 (g 1), .int .i64 (g 2), .int .i64 (g 3), .int .i64 (g 4), .int .i64 (g 5), .int .i64 (g 6), .int .i64 (g 7), .int .i64 (g 8), .int .i64 (g 9)]) (.int .i64 8)).run Tryd.prog W = .ok (.int .i64 (g 8)) W := by kernel_rfl
theorem idx10_9 (g : Nat → Int) (W : World) : (Instr.index 63 (.agg #[.int .i64 (g 0), .int .i64 (g 1), .int .i64 (g 2), .int .i64 (g 3), .int .i64 (g 4), .int .i64 (g 5), .int .i64 (g 6), .int .i64 (g 7), .int .i64 (g 8), .int .i64 (g 9)]) (.int .i64 9)).run Tryd.prog W = .ok (.int .i64 (g 9)) W := by kernel_rfl
theorem idx10 (g : Nat → Int) (k : Nat) (hk : k < 10) (W : World) : (Instr.index 63 (.agg #[.int .i64 (g 0), .int .i64 (g 1), .int .i64 (g 2), .int .i64 (g 3), .int .i64 (g 4), .int .i64 (g 5), .int .i64 (g 6), .int .i64 (g 7), .int .i64 (g 8), .int .i64 (g 9)]) (.int .i64 (k : Int))).run Tryd.prog W = .ok (.int .i64 (g k)) W := by
  have : k = 0 ∨ k = 1 ∨ k = 2 ∨ k = 3 ∨ k = 4 ∨ k = 5 ∨ k = 6 ∨ k = 7 ∨ k = 8 ∨ k = 9 := by omega
  rcases this with rfl | rfl | rfl | rfl | rfl | rfl | rfl | rfl | rfl | rfl
  · rw [show ((0 : Nat) : Int) = 0 from rfl]; exact idx10_0 g W
  · rw [show ((1 : Nat) : Int) = 1 from rfl]; exact idx10_1 g W
  · rw [show ((2 : Nat) : Int) = 2 from rfl]; exact idx10_2 g W
  · rw [show ((3 : Nat) : Int) = 3 from rfl]; exact idx10_3 g W
  · rw [show ((4 : Nat) : Int) = 4 from rfl]; exact idx10_4 g W
  · rw [show ((5 : Nat) : Int) = 5 from rfl]; exact idx10_5 g W
  · rw [show ((6 : Nat) : Int) = 6 from rfl]; exact idx10_6 g W
  · rw [show ((7 : Nat) : Int) = 7 from rfl]; exact idx10_7 g W
  · rw [show ((8 : Nat) : Int) = 8 from rfl]; exact idx10_8 g W
  · rw [show ((9 : Nat) : Int) = 9 from rfl]; exact idx10_9 g W
theorem ten_one (g : Nat → Int) : Array.all (#[.int .i64 (g 0), .int .i64 (g 1), .int .i64 (g 2), .int .i64 (g 3), .int .i64 (g 4), .int .i64 (g 5), .int .i64 (g 6), .int .i64 (g 7), .int .i64 (g 8), .int .i64 (g 9)] : Array Value) (fun v => v.oneCell') = true := by simp [Value.oneCell']
set_option maxHeartbeats 1000000 in
theorem numbersOf_any (g : Nat → Int) (ao : Option Addr) (n ca : Nat) (t : ByteArray) (w : World) :
   Calls Tryd.prog 18 #[msgV g (.slice ao n ca) t] w fun e w' => e = .returned (.agg #[.int .i64 (g 0), .int .i64 (g 1), .int .i64 (g 2), .int .i64 (g 3), .int .i64 (g 4), .int .i64 (g 5), .int .i64 (g 6), .int .i64 (g 7), .int .i64 (g 8), .int .i64 (g 9)]) ∧ Below w.heap.size w w' := by
  have X0 := blk_new w 50 (msgC g (.slice ao n ca) t)
  have B0 : Below w.heap.size w (w.alloc (.cells (msgC g (.slice ao n ca) t) 50)) := below_alloc _ _
  generalize hw0 : w.alloc (.cells (msgC g (.slice ao n ca) t) 50) = w0 at *
  have lt0 := X0.lt
  have X1 := blk_new w0 63 #[.int .i64 0, .int .i64 0, .int .i64 0, .int .i64 0, .int .i64 0, .int .i64 0, .int .i64 0, .int .i64 0, .int .i64 0, .int .i64 0]
  have B1 : Below w0.heap.size w0 (w0.alloc (.cells #[.int .i64 0, .int .i64 0, .int .i64 0, .int .i64 0, .int .i64 0, .int .i64 0, .int .i64 0, .int .i64 0, .int .i64 0, .int .i64 0] 63)) := below_alloc _ _
  generalize hw1 : w0.alloc (.cells #[.int .i64 0, .int .i64 0, .int .i64 0, .int .i64 0, .int .i64 0, .int .i64 0, .int .i64 0, .int .i64 0, .int .i64 0, .int .i64 0] 63) = w1 at *
  replace X0 := X0.next B1
  have D := below_then B0 B1
  clear B0 B1
  have c0 : w1.cell? ⟨w.heap.size, 0, none⟩ = some (.int .i64 (g 0)) := X0.cell 0 rfl
  have c1 : w1.cell? ⟨w.heap.size, 1, none⟩ = some (.int .i64 (g 1)) := X0.cell 1 rfl
  have c2 : w1.cell? ⟨w.heap.size, 2, none⟩ = some (.int .i64 (g 2)) := X0.cell 2 rfl
  have c3 : w1.cell? ⟨w.heap.size, 3, none⟩ = some (.int .i64 (g 3)) := X0.cell 3 rfl
  have c4 : w1.cell? ⟨w.heap.size, 4, none⟩ = some (.int .i64 (g 4)) := X0.cell 4 rfl
  have c5 : w1.cell? ⟨w.heap.size, 5, none⟩ = some (.int .i64 (g 5)) := X0.cell 5 rfl
  have c6 : w1.cell? ⟨w.heap.size, 6, none⟩ = some (.int .i64 (g 6)) := X0.cell 6 rfl
  have c7 : w1.cell? ⟨w.heap.size, 7, none⟩ = some (.int .i64 (g 7)) := X0.cell 7 rfl
  have c8 : w1.cell? ⟨w.heap.size, 8, none⟩ = some (.int .i64 (g 8)) := X0.cell 8 rfl
  have c9 : w1.cell? ⟨w.heap.size, 9, none⟩ = some (.int .i64 (g 9)) := X0.cell 9 rfl
  have one := ten_one g
  go_enter Tryd.func18, Tryd.ntmps18
  go_wp2_with (refine wpList_store_row rfl 63 _ _ rfl w0.heap.size #[.int .i64 (g 0), .int .i64 (g 1), .int .i64 (g 2), .int .i64 (g 3), .int .i64 (g 4), .int .i64 (g 5), .int .i64 (g 6), .int .i64 (g 7), .int .i64 (g 8), .int .i64 (g 9)] rfl rfl 63 _ X1 Tryd.infoTen rfl one ?_)
  refine bodyPost_ret (results_cell_row rfl _ _ w0.heap.size 63 _ _ _ rfl (X1.row _) Tryd.underlying63 rfl Tryd.infoTen) rfl ?_
  exact ⟨rfl, below_setRow D (by omega) _⟩
def badI (x : Int) : Bool := decide (x < 0 ∨ 1099511627776 < x)
def badT (x : Int) : Bool := decide (x < 0 ∨ 255 < x)
/-- What is wrong with a message: the error's number and the part. -/
def chkN (g : Nat → Int) (A : List Int) (tl : Nat) : Nat × Int :=
  if g 0 < 1 ∨ 10 < g 0 then (13, 1)
  else match (List.range 10).find? (fun i => badI (g i)) with
  | some i => (1, (i : Int) + 1)
  | none => if 128 < A.length then (2, 11) else if A.any badT then (7, 11) else if 50000 < tl then (2, 12) else (0, -1)
def chkE (p : Nat × Int) : Value := if p.1 = 0 then .nilIface else eB p.2 (eN p.1)
theorem chk_kind {g : Nat → Int} {A : List Int} {tl : Nat} (h : g 0 < 1 ∨ 10 < g 0) : chkN g A tl = (13, 1) := by unfold chkN; rw [if_pos h]
theorem find_bad {g : Nat → Int} {k : Nat} (hk : k < 10) (h1 : ∀ j, j < k → badI (g j) = false) (h2 : badI (g k) = true) : (List.range 10).find? (fun i => badI (g i)) = some k := by
  rw [List.find?_range_eq_some]
  exact ⟨h2, by simpa using hk, fun j hj => by simp [h1 j hj]⟩
theorem find_none {g : Nat → Int} (h1 : ∀ j, j < 10 → badI (g j) = false) : (List.range 10).find? (fun i => badI (g i)) = none := by
  rw [List.find?_range_eq_none]
  intro j hj
  simp [h1 j hj]
theorem chk_num {g : Nat → Int} {A : List Int} {tl k : Nat} (h0 : ¬ (g 0 < 1 ∨ 10 < g 0)) (hk : k < 10) (h1 : ∀ j, j < k → badI (g j) = false) (h2 : badI (g k) = true) : chkN g A tl = (1, (k : Int) + 1) := by
  unfold chkN; rw [if_neg h0, find_bad hk h1 h2]
theorem chk_rest {g : Nat → Int} {A : List Int} {tl : Nat} (h0 : ¬ (g 0 < 1 ∨ 10 < g 0)) (h1 : ∀ j, j < 10 → badI (g j) = false) : chkN g A tl = if 128 < A.length then (2, 11) else if A.any badT then (7, 11) else if 50000 < tl then (2, 12) else (0, -1) := by
  unfold chkN; rw [if_neg h0, find_none h1]
theorem any_bad {A : List Int} {k : Nat} (hk : k < A.length) (h2 : badT (el A k) = true) : A.any badT = true := by
  rw [List.any_eq_true]
  refine ⟨el A k, ?_, h2⟩
  unfold el
  rw [List.getD_eq_getElem?_getD, List.getElem?_eq_getElem hk]
  exact List.getElem_mem hk
theorem any_none {A : List Int} (h : ∀ k, k < A.length → badT (el A k) = false) : A.any badT = false := by
  rw [List.any_eq_false]
  intro x hx
  obtain ⟨k, hk, rfl⟩ := List.getElem_of_mem hx
  have := h k hk
  unfold el at this
  rw [List.getD_eq_getElem?_getD, List.getElem?_eq_getElem hk] at this
  simpa using this
/-- The law of what is wrong, as a call's end: the error, and nothing that was there has turned. -/
def ChkR (g : Nat → Int) (A : List Int) (tl : Nat) (w : World) (e : Ending) (w' : World) : Prop := e = .returned (chkE (chkN g A tl)) ∧ Below w.heap.size w w'
theorem ChkR.of {g : Nat → Int} {A : List Int} {tl : Nat} {w w' : World} {n : Nat} {q : Int} (h : chkN g A tl = (n + 1, q)) (hb : Below w.heap.size w w') : ChkR g A tl w (.returned (.iface 68 (.agg #[.int .i64 q, .iface 24 (.int .i64 ((n + 1 : Nat) : Int))]))) w' := by
  refine ⟨?_, hb⟩
  rw [h]; rfl
theorem ChkR.ok {g : Nat → Int} {A : List Int} {tl : Nat} {w w' : World} {q : Int} (h : chkN g A tl = (0, q)) (hb : Below w.heap.size w w') : ChkR g A tl w (.returned .nilIface) w' := by
  refine ⟨?_, hb⟩
  rw [h]; rfl
set_option maxHeartbeats 2000000 in
theorem check_any (g : Nat → Int) (ao : Option Addr) (n ca : Nat) (A : List Int) (t : ByteArray) (w : World) (hA : IArg w ao n ca A) (hg : ∀ k, k < 10 → -9223372036854775808 ≤ g k ∧ g k ≤ 9223372036854775807) :
   Calls Tryd.prog 17 #[msgV g (.slice ao n ca) t] w (ChkR g A t.size w) := by
  have X0 := blk_new w 50 (msgC g (.slice ao n ca) t)
  have B0 : Below w.heap.size w (w.alloc (.cells (msgC g (.slice ao n ca) t) 50)) := below_alloc _ _
  generalize hw0 : w.alloc (.cells (msgC g (.slice ao n ca) t) 50) = w0 at *
  have c0 : w0.cell? ⟨w.heap.size, 0, none⟩ = some (.int .i64 (g 0)) := X0.cell 0 rfl
  have hl := hA.row.len
  have hA0 := hA.below B0
  by_cases k1 : g 0 < 1
  · have HF : Hid (chkN g A t.size = (12 + 1, 1)) := chk_kind (Or.inl k1)
    clear X0 hA hA0 hl hg
    go_enter Tryd.func17, Tryd.ntmps17
    go_wp2_with fail
    go_ret
    exact ChkR.of HF.out B0
  by_cases k2 : 10 < g 0
  · have HF : Hid (chkN g A t.size = (12 + 1, 1)) := chk_kind (Or.inr k2)
    clear X0 hA hA0 hl hg
    go_enter Tryd.func17, Tryd.ntmps17
    go_wp2_with fail
    go_ret
    exact ChkR.of HF.out B0
  have k0 : ¬ (g 0 < 1 ∨ 10 < g 0) := by omega
  have N0 := numbersOf_any g ao n ca t w0
  go_enter Tryd.func17, Tryd.ntmps17
  go_wp2_with (first
    | (refine wpList_load_row rfl 50 _ rfl w.heap.size rfl 50 (msgC g (.slice ao n ca) t) (0, 0) _ X0 Tryd.underlying50 rfl Tryd.infoMsg ?_)
    | (go_at_call 18; refine N0.mono ?_; rintro e w1 ⟨rfl, B1⟩))
  have HK : Hid (¬ (g 0 < 1 ∨ 10 < g 0)) := k0
  have X1 := X0.next B1
  have D := below_then B0 B1
  have hA1 := hA0.below B1
  have c10 : w1.cell? ⟨w.heap.size, 10, none⟩ = some (.slice ao n ca) := X1.cell 10 rfl
  have c11 : w1.cell? ⟨w.heap.size, 11, none⟩ = some (.string t) := X1.cell 11 rfl
  clear k0 k1 k2 c0 X0 hA hA0 N0 B0 B1 hw0 X1
  go_loop [20] (fun i => ∃ k : Nat, k ≤ 10 ∧ (∀ j, j < k → badI (g j) = false) ∧ i = .int .i64 (k : Int)) (fun i => 10 - (intOf i).toNat)
  case atStart => exact ⟨0, by omega, fun j hj => by omega, rfl⟩
  case round =>
    obtain ⟨k, hk, hj, rfl⟩ := hrel
    by_cases hk1 : k < 10
    · have ix := idx10 g k hk1
      have HJ : Hid (∀ j, j < k → badI (g j) = false) := hj
      have HS : Hid (badI (g k) = false → ∀ j, j < k + 1 → badI (g j) = false) := fun hb j hj2 => by
        rcases Nat.lt_or_ge j k with h | h
        · exact hj j h
        · obtain rfl : j = k := by omega
          exact hb
      have HN : Hid (badI (g k) = true → chkN g A t.size = (0 + 1, (k : Int) + 1)) := fun hb => chk_num HK.out hk1 hj hb
      clear hj
      have hr := hg k hk1
      by_cases m1 : g k < 0
      · have HB : Hid (badI (g k) = true) := by show _ = _; simp [badI]; exact Or.inl m1
        clear hg
        go_wp2_with fail
        go_ret
        rw [Int.add_comm]
        exact ChkR.of (HN.out HB.out) D
      by_cases m2 : 1099511627776 < g k
      · have HB : Hid (badI (g k) = true) := by show _ = _; simp [badI]; exact Or.inr m2
        clear hg
        go_wp2_with fail
        go_ret
        rw [Int.add_comm]
        exact ChkR.of (HN.out HB.out) D
      have HB : Hid (badI (g k) = false) := by show _ = _; simp [badI]; omega
      go_wp2_with fail
      go_round
      case rel => exact ⟨k + 1, by omega, HS.out HB.out, by go_num⟩
      case measure => simp [intOf]; omega
    · obtain rfl : k = 10 := by omega
      have HR : Hid (chkN g A t.size = if 128 < A.length then (2, 11) else if A.any badT then (7, 11) else if 50000 < t.size then (2, 12) else (0, -1)) := chk_rest HK.out hj
      clear hj hg
      have hm := hA1.row.max
      by_cases n1 : 128 < n
      · have HF : Hid (chkN g A t.size = (1 + 1, 11)) := by show _ = _; rw [HR.out, if_pos (by omega)]
        go_wp2_with fail
        go_ret
        exact ChkR.of HF.out D
      go_wp2_with fail
      go_loop [46] (fun i => ∃ k : Nat, k ≤ n ∧ (∀ j, j < k → badT (el A j) = false) ∧ i = .int .i64 (k : Int)) (fun i => n - (intOf i).toNat)
      case atStart => exact ⟨0, by omega, fun j hj => by omega, rfl⟩
      case round =>
        obtain ⟨k, hk, hj, rfl⟩ := hrel
        by_cases hk1 : k < n
        · obtain ⟨b, o, rfl, hc⟩ := hA1.row.cells (by omega)
          have hck := hc k hk1
          have hsm := hA1.row.small k
          have HS : Hid (badT (el A k) = false → ∀ j, j < k + 1 → badT (el A j) = false) := fun hb j hj2 => by
            rcases Nat.lt_or_ge j k with h | h
            · exact hj j h
            · obtain rfl : j = k := by omega
              exact hb
          have HN : Hid (badT (el A k) = true → chkN g A t.size = (6 + 1, 11)) := fun hb => by rw [HR.out, if_neg (by omega), if_pos (any_bad (by omega) hb)]
          have HT : ∀ x, el A k = x → Hid (badT (el A k) = badT x) := fun x h => by show _ = _; rw [h]
          generalize hx : el A k = x at hck hsm
          have HX := HT x hx
          clear hj hc HT hx
          by_cases m1 : x < 0
          · have HB : Hid (badT x = true) := by show _ = _; simp [badT]; exact Or.inl m1
            go_wp2_with fail
            go_ret
            exact ChkR.of (HN.out (HX.out.trans HB.out)) D
          by_cases m2 : 255 < x
          · have HB : Hid (badT x = true) := by show _ = _; simp [badT]; exact Or.inr m2
            go_wp2_with fail
            go_ret
            exact ChkR.of (HN.out (HX.out.trans HB.out)) D
          have HB : Hid (badT x = false) := by show _ = _; simp [badT]; omega
          go_wp2_with fail
          go_round
          case rel => exact ⟨k + 1, by omega, HS.out (HX.out.trans HB.out), by go_num⟩
          case measure => simp [intOf]; omega
        · obtain rfl : k = n := by omega
          have HR2 : Hid (chkN g A t.size = if 50000 < t.size then (2, 12) else (0, -1)) := by show _ = _; rw [HR.out, if_neg (by omega), if_neg (by rw [any_none (fun j hk => hj j (by omega))]; decide)]
          clear hj
          by_cases z1 : 50000 < t.size
          · have HF : Hid (chkN g A t.size = (1 + 1, 12)) := by show _ = _; rw [HR2.out, if_pos z1]
            go_wp2_with fail
            go_ret
            exact ChkR.of HF.out D
          · have HF : Hid (chkN g A t.size = (0, -1)) := by show _ = _; rw [HR2.out, if_neg z1]
            go_wp2_with fail
            go_ret
            exact ChkR.ok HF.out D
end Go.Proofs.YtdopcagikcdfcaaDoor
