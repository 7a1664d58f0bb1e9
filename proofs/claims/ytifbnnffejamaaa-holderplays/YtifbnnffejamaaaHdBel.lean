/- A holder's moments, plans, what is over, what it believes. -/
import Derived.Test.YtifbnnffejamaaaHdFun
namespace Go.Proofs.Ytifbnnffejamaaa
open Go.ChangeShapes Go.WideShapes Go.ChangeAt Go.RowKit Go.Maps
theorem hover_any (now : Int) (w : World) : Calls Try.prog 27 #[.int .i64 now] w fun e w' => e = .returned (.func (.func 41) #[] #[.pointer (some ⟨w.heap.size, 0, none⟩)]) ∧ w' = w.alloc (.cells #[.int .i64 now] 3) := by
  go_enter Try.func27, Try.ntmps27
  go_wp2
  go_ret
  exact ⟨rfl, rfl⟩
theorem hoverf_any (un now : Int) (c : Nat) (w : World) (hc : w.cell? ⟨c, 0, none⟩ = some (.int .i64 now)) : Calls Try.prog 41 #[.int .i64 un, .pointer (some ⟨c, 0, none⟩)] w fun e w' => e = .returned (.bool (decide (un ≤ now))) ∧ w' = w := by
  by_cases h : un ≤ now
  · rw [decide_eq_true h]
    go_enter Try.func41, Try.ntmps41
    go_wp2
    go_ret
    exact ⟨rfl, rfl⟩
  · rw [decide_eq_false h]
    go_enter Try.func41, Try.ntmps41
    go_wp2
    go_ret
    exact ⟨rfl, rfl⟩
def momD (now : Int) : Bool := decide (0 ≤ now ∧ now ≤ 1099511627776)
set_option maxRecDepth 100000 in
theorem hmom_any (now : Int) (w : World) : Calls Try.prog 23 #[.int .i64 now] w fun e w' => e = .returned (.bool (momD now)) ∧ w' = w := by
  by_cases h : 0 ≤ now
  · by_cases h2 : now ≤ 1099511627776
    · have e : momD now = true := decide_eq_true ⟨h, h2⟩
      rw [e]
      clear e
      go_enter Try.func23, Try.ntmps23
      go_wp2
      go_ret
      exact ⟨rfl, rfl⟩
    · have e : momD now = false := decide_eq_false (fun k => h2 k.2)
      rw [e]
      clear e
      go_enter Try.func23, Try.ntmps23
      go_wp2
      go_ret
      exact ⟨rfl, rfl⟩
  · have e : momD now = false := decide_eq_false (fun k => h k.1)
    rw [e]
    clear e
    go_enter Try.func23, Try.ntmps23
    go_wp2
    go_ret
    exact ⟨rfl, rfl⟩
def rightD (t m : Int) : Bool := decide (1 ≤ t ∧ t ≤ 1048576 ∧ 0 ≤ m ∧ m ≤ 1048576)
set_option maxRecDepth 100000 in
theorem hright_any (t m : Int) (w : World) : Calls Try.prog 26 #[.agg #[.int .i64 t, .int .i64 m]] w fun e w' => e = .returned (.bool (rightD t m)) ∧ Below w.heap.size w w' := by
  have B0 := belowA w (.cells #[.int .i64 t, .int .i64 m] 43)
  by_cases h1 : 1 ≤ t
  case neg =>
    have e : rightD t m = false := decide_eq_false (fun k => h1 k.1)
    rw [e]
    clear e
    go_enter Try.func26, Try.ntmps26
    go_wp2
    go_ret
    exact ⟨rfl, B0⟩
  by_cases h2 : t ≤ 1048576
  case neg =>
    have e : rightD t m = false := decide_eq_false (fun k => h2 k.2.1)
    rw [e]
    clear e
    go_enter Try.func26, Try.ntmps26
    go_wp2
    go_ret
    exact ⟨rfl, B0⟩
  by_cases h3 : 0 ≤ m
  case neg =>
    have e : rightD t m = false := decide_eq_false (fun k => h3 k.2.2.1)
    rw [e]
    clear e
    go_enter Try.func26, Try.ntmps26
    go_wp2
    go_ret
    exact ⟨rfl, B0⟩
  by_cases h4 : m ≤ 1048576
  case neg =>
    have e : rightD t m = false := decide_eq_false (fun k => h4 k.2.2.2)
    rw [e]
    clear e
    go_enter Try.func26, Try.ntmps26
    go_wp2
    go_ret
    exact ⟨rfl, B0⟩
  have e : rightD t m = true := decide_eq_true ⟨h1, h2, h3, h4⟩
  rw [e]
  clear e
  go_enter Try.func26, Try.ntmps26
  go_wp2
  go_ret
  exact ⟨rfl, B0⟩
/-- By which epoch a place may be written. -/
def belL (now : Int) (H : List (Int × Hv)) (x : Int) : Option Int := match getM H x with
  | some h => if now < h.unt then some h.epo else none
  | none => none
theorem results_t2 {fn : Func} {p q : Tmp} (h : fn.results = #[.tmp p, .tmp q]) (tmps : Array Value) (w : World) :
    (results fn tmps).run Try.prog w = .ok (.tuple #[tmps.getD p undef, tmps.getD q undef]) w := by
  simp [results, h]
set_option maxRecDepth 100000 in
set_option maxHeartbeats 4000000 in
theorem hbel_any (li cn : Int) (mw mh : Option Nat) (now x : Int) (H : List (Int × Hv)) (w : World) (hH : HvM w mh H) (hx : -9223372036854775808 ≤ x ∧ x ≤ 9223372036854775807) :
   Calls Try.prog 21 #[hsV li cn mw mh, .int .i64 now, .int .i64 x] w fun e w' => e = .returned (.tuple #[.int .i64 ((belL now H x).getD 0), .bool (belL now H x).isSome]) ∧ Below w.heap.size w w' := by
  obtain ⟨r, hr⟩ : ∃ r, r = belL now H x := ⟨_, rfl⟩
  rw [← hr]
  unfold belL at hr
  unfold hsV
  have X0 := blk_new w 26 #[.int .i64 li, .int .i64 cn, .map mw, .map mh]
  have B0 := belowA w (.cells #[.int .i64 li, .int .i64 cn, .map mw, .map mh] 26)
  generalize hw0 : w.alloc (.cells #[.int .i64 li, .int .i64 cn, .map mw, .map mh] 26) = w0 at *
  have H0 := hH.below B0
  have c3 : w0.cell? ⟨w.heap.size, 3, none⟩ = some (.map mh) := X0.cell 3 rfl
  have s0 : w0.heap.size = w.heap.size + 1 := by rw [← hw0]; simp
  have O := hover_any now w0
  have X1 := blk_new w0 3 #[.int .i64 now]
  have B1 := belowA w0 (.cells #[.int .i64 now] 3)
  have s1 : (w0.alloc (.cells #[.int .i64 now] 3)).heap.size = w.heap.size + 1 + 1 := by simp [s0]
  have X01 := X0.below B1
  rw [s0] at X1 O
  generalize hw1 : w0.alloc (.cells #[.int .i64 now] 3) = w1 at *
  have LK := (H0.below B1).look x hx
  have cc3 : w1.cell? ⟨w.heap.size, 3, none⟩ = some (.map mh) := X01.cell 3 rfl
  obtain ⟨ho, hho⟩ : ∃ ho, ho = getM H x := ⟨_, rfl⟩
  rw [← hho] at LK hr
  obtain ⟨h, hh⟩ : ∃ h, h = ho.getD Hv.zero := ⟨_, rfl⟩
  rw [← hh] at LK
  obtain ⟨eo, uo⟩ := h
  have X2 := blk_new w1 80 #[.int .i64 0, .int .i64 0]
  have B2 := belowA w1 (.cells #[.int .i64 0, .int .i64 0] 80)
  have X12 := X1.below B2
  have s2 : (w1.alloc (.cells #[.int .i64 0, .int .i64 0] 80)).heap.size = w.heap.size + 1 + 1 + 1 := by simp [s1]
  rw [s1] at X2
  generalize hw2 : w1.alloc (.cells #[.int .i64 0, .int .i64 0] 80) = w2 at *
  have X3 := X2.row #[.int .i64 eo, .int .i64 uo]
  have X13 := X12.of_block (setRow_other w2 (w.heap.size + 1 + 1) (w.heap.size + 1) #[.int .i64 eo, .int .i64 uo] (by omega))
  have B3 := belowR (below_then (below_then B0 B1) B2) (show w.heap.size ≤ w.heap.size + 1 + 1 by omega) #[.int .i64 eo, .int .i64 uo]
  generalize hw3 : w2.setRow (w.heap.size + 1 + 1) #[.int .i64 eo, .int .i64 uo] = w3 at *
  have F := hoverf_any uo now (w.heap.size + 1) w3 (X13.cell 0 rfl)
  have k0 : w3.cell? ⟨w.heap.size + 1 + 1, 0, none⟩ = some (.int .i64 eo) := X3.cell 0 rfl
  have k1 : w3.cell? ⟨w.heap.size + 1 + 1, 1, none⟩ = some (.int .i64 uo) := X3.cell 1 rfl
  unfold Hv.val at LK
  simp only at LK
  clear hho B0 B1 B2 hH H0
  have eg : ∀ args w, (callFunc 41 args).run Try.prog w = .ok (.enter 41 args) w := enters_of Try.func41 (by kernel_rfl) rfl
  rcases ho with _ | h
  · simp only at hr
    subst hr
    simp only [Option.isSome_none] at LK
    go_enter Try.func21, Try.ntmps21
    go_wp2_with (first
      | (go_at_call 27; refine O.mono ?_; rintro e w9 ⟨rfl, rfl⟩)
      | (go_at_fn 41; refine F.mono ?_; rintro e w9 ⟨rfl, rfl⟩)
      | (refine wpList_store_row rfl 80 _ _ rfl (w.heap.size + 1 + 1) _ rfl rfl 80 _ X2 Try.infoHv rfl (wall _ _) ?_; rw [hw3]))
    refine bodyPost_ret (results_t2 rfl _ _) rfl ?_
    exact ⟨rfl, B3⟩
  · obtain ⟨a, b⟩ := h
    simp only [Option.getD_some] at hh
    obtain ⟨rfl, rfl⟩ : eo = a ∧ uo = b := by cases hh; exact ⟨rfl, rfl⟩
    simp only at hr
    simp only [Option.isSome_some] at LK
    by_cases hn : uo ≤ now
    · rw [if_neg (by omega)] at hr
      subst hr
      rw [decide_eq_true hn] at F
      go_enter Try.func21, Try.ntmps21
      go_wp2_with (first
        | (go_at_call 27; refine O.mono ?_; rintro e w9 ⟨rfl, rfl⟩)
        | (go_at_fn 41; refine F.mono ?_; rintro e w9 ⟨rfl, rfl⟩)
        | (refine wpList_store_row rfl 80 _ _ rfl (w.heap.size + 1 + 1) _ rfl rfl 80 _ X2 Try.infoHv rfl (wall _ _) ?_; rw [hw3]))
      refine bodyPost_ret (results_t2 rfl _ _) rfl ?_
      exact ⟨rfl, B3⟩
    · rw [if_pos (by omega)] at hr
      subst hr
      rw [decide_eq_false hn] at F
      go_enter Try.func21, Try.ntmps21
      go_wp2_with (first
        | (go_at_call 27; refine O.mono ?_; rintro e w9 ⟨rfl, rfl⟩)
        | (go_at_fn 41; refine F.mono ?_; rintro e w9 ⟨rfl, rfl⟩)
        | (refine wpList_store_row rfl 80 _ _ rfl (w.heap.size + 1 + 1) _ rfl rfl 80 _ X2 Try.infoHv rfl (wall _ _) ?_; rw [hw3]))
      refine bodyPost_ret (results_t2 rfl _ _) rfl ?_
      exact ⟨rfl, B3⟩
end Go.Proofs.Ytifbnnffejamaaa
