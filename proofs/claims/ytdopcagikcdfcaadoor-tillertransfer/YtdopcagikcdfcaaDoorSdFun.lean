/- send's Cut, Begin, Left and Over. -/
import Derived.Test.YtdopcagikcdfcaaDoorSdBase
namespace Go.Proofs.YtdopcagikcdfcaaDoor
open Go.ChangeShapes Go.WideShapes Go.ChangeAt Go.RowKit
def strs (S : List ByteArray) : List Value := S.map Value.string
def bools (C : List Bool) : List Value := C.map Value.bool
def ints (A : List Int) : List Value := A.map (Value.int .i64)
theorem strs_one (S : List ByteArray) : ∀ u ∈ strs S, u.oneCell' = true := by
  intro u hu; unfold strs at hu; rw [List.mem_map] at hu; obtain ⟨a, _, rfl⟩ := hu; rfl
theorem bools_one (C : List Bool) : ∀ u ∈ bools C, u.oneCell' = true := by
  intro u hu; unfold bools at hu; rw [List.mem_map] at hu; obtain ⟨a, _, rfl⟩ := hu; rfl
def se (S : List ByteArray) (i : Nat) : ByteArray := S.getD i ⟨#[]⟩
def be (C : List Bool) (i : Nat) : Bool := C.getD i false
theorem strs_get {S : List ByteArray} {t : Nat} (h : t < S.length) : (strs S)[t]? = some (.string (se S t)) := by
  unfold strs se; simp [List.getD_eq_getElem?_getD, List.getElem?_eq_getElem h]
theorem bools_get {C : List Bool} {t : Nat} (h : t < C.length) : (bools C)[t]? = some (.bool (be C t)) := by
  unfold bools be; simp [List.getD_eq_getElem?_getD, List.getElem?_eq_getElem h]
theorem ints_get {A : List Int} {t : Nat} (h : t < A.length) : (ints A)[t]? = some (.int .i64 (el A t)) := by
  unfold ints el; simp [List.getD_eq_getElem?_getD, List.getElem?_eq_getElem h]
theorem strs_len (S : List ByteArray) : (strs S).length = S.length := by simp [strs]
theorem bools_len (C : List Bool) : (bools C).length = C.length := by simp [bools]
theorem ints_len (A : List Int) : (ints A).length = A.length := by simp [ints]
theorem be_over {C : List Bool} {k : Nat} (h : C.length ≤ k) : be C k = false := by
  unfold be; rw [List.getD_eq_getElem?_getD, List.getElem?_eq_none h]; rfl
/-- A state as a value. -/
def stV (num : Int) (p c : Value) : Value := .agg #[.int .i64 num, p, c]
theorem stall (num : Int) (a c : Option Addr) (i j k l : Nat) : Array.all (#[.int .i64 num, .slice a i j, .slice c k l] : Array Value) (fun v => v.oneCell') = true := by simp [Value.oneCell']
theorem Tryd.infoSs : (Tryd.prog.info? 30).map (·.size) = some 3 := by kernel_rfl
/-- A text's parts: all but the last one have z bytes. -/
def cutL (z : Nat) : Nat → List UInt8 → List (List UInt8)
  | 0, l => [l]
  | f + 1, l => if z < l.length then l.take z :: cutL z f (l.drop z) else [l]
def cutS (l : List UInt8) (z : Nat) : List ByteArray := (cutL z l.length l).map txt
theorem cutL_more {z f : Nat} {l : List UInt8} (hz : 1 ≤ z) (h : z < l.length) (hf : l.length ≤ f) : ∃ g, f = g + 1 ∧ cutL z f l = l.take z :: cutL z g (l.drop z) ∧ (l.drop z).length ≤ g := by
  cases f with
  | zero => omega
  | succ g => exact ⟨g, rfl, by simp [cutL, h], by rw [List.length_drop]; omega⟩
theorem cutL_end {z f : Nat} {l : List UInt8} (h : ¬ z < l.length) : cutL z f l = [l] := by
  cases f with
  | zero => rfl
  | succ g => simp [cutL, h]
def cutN (l : List UInt8) (I : Int) : Int := if I < 1 then 1 else if 4096 < I ∨ 512 * I < (l.length : Int) then 2 else 0
theorem snoc_assoc {P : List ByteArray} {x : List UInt8} {R F : List (List UInt8)} (h : P ++ (x :: R).map txt = F.map txt) : (P ++ [txt x]) ++ R.map txt = F.map txt := by
  rw [← h]; simp
set_option maxHeartbeats 4000000 in
theorem scut_bad (l : List UInt8) (I : Int) (w : World) (h : cutN l I ≠ 0) :
   Calls Tryd.prog 4 #[.string (txt l), .int .i64 I] w fun e w' => e = .returned (.tuple #[.slice none 0 0, .int .i64 (cutN l I)]) ∧ w' = w := by
  have hz : ((txt l).size : Int) = (l.length : Int) := by rw [txt_size]
  generalize txt l = Y at *
  unfold cutN at *
  by_cases d1 : I < 1
  · rw [if_pos d1]
    go_enter Tryd.func4, Tryd.ntmps4
    go_wp2_with fail
    go_ret2
    exact ⟨rfl, rfl⟩
  rw [if_neg d1] at *
  by_cases d2 : 4096 < I
  · rw [if_pos (Or.inl d2)]
    go_enter Tryd.func4, Tryd.ntmps4
    go_wp2_with fail
    go_ret2
    exact ⟨rfl, rfl⟩
  by_cases d3 : 512 * I < (l.length : Int)
  · rw [if_pos (Or.inr d3)]
    clear h
    have d3' : I * 512 < (l.length : Int) := by omega
    go_enter Tryd.func4, Tryd.ntmps4
    go_wp2_with fail
    go_ret2
    exact ⟨rfl, rfl⟩
  · exact absurd (if_neg (by omega)) h
set_option maxHeartbeats 8000000 in
theorem scut_ok (l : List UInt8) (z : Nat) (w : World) (h : cutN l z = 0) (hl : l.length ≤ 100000) :
   Calls Tryd.prog 4 #[.string (txt l), .int .i64 (z : Int)] w fun e w' => ∃ a c, e = .returned (.tuple #[.slice a (cutS l z).length c, .int .i64 0]) ∧ VOwn w' w.heap.size 9 (.slice a (cutS l z).length c) (cutS l z).length (strs (cutS l z)) ∧ Below w.heap.size w w' := by
  have d1 : ¬ (z : Int) < 1 := by intro d; unfold cutN at h; rw [if_pos d] at h; omega
  have d2 : ¬ 4096 < (z : Int) := by intro d; unfold cutN at h; rw [if_neg d1, if_pos (Or.inl d)] at h; omega
  have d3 : ¬ 512 * (z : Int) < (l.length : Int) := by intro d; unfold cutN at h; rw [if_neg d1, if_pos (Or.inr d)] at h; omega
  have d3' : ¬ (z : Int) * 512 < (l.length : Int) := by omega
  have hz0 : ((txt l).size : Int) = (l.length : Int) := by rw [txt_size]
  obtain ⟨Y, hY⟩ : ∃ Y, Y = txt l := ⟨_, rfl⟩
  have HY : Hid (Y = txt l) := hY
  rw [← hY] at hz0 ⊢
  clear h hY
  go_enter Tryd.func4, Tryd.ntmps4
  go_wp2_with fail
  go_loopg [0, 6] l.length (fun r s0 s6 wr => ∃ (f : Nat) (t : List UInt8) (P : List ByteArray) (a : Option Addr) (c : Nat), r = f ∧ t.length ≤ f ∧ P.length + f ≤ l.length ∧ s0 = .string (txt t) ∧ s6 = .slice a P.length c ∧ P ++ (cutL z f t).map txt = cutS l z ∧ VOwn wr w.heap.size 9 (.slice a P.length c) P.length (strs P) ∧ Below w.heap.size w wr)
  case atStart => exact ⟨l.length, l, [], none, 0, rfl, Nat.le_refl _, by simp, by rw [HY.out], rfl, by simp [cutS], vown_nil _ _ _, Below.refl _ _⟩
  case round =>
  obtain ⟨f, t, P, a, c, rfl, ht, hP, rfl, rfl, hc, O, B⟩ := hrel
  have zt : ((txt t).size : Int) = (t.length : Int) := by rw [txt_size]
  have zB := B.size
  by_cases d4 : z < t.length
  · have d4' : (z : Int) < (t.length : Int) := by omega
    obtain ⟨g, rfl, e1, h1⟩ := cutL_more (by omega) d4 ht
    rw [e1] at hc
    have hc' := snoc_assoc hc
    clear e1 hc
    have SL := sl_to t z (z : Int) rfl (by omega)
    have SF := slice_fr t z (z : Int) rfl (by omega)
    have CL := fun W => clone_any (txt (t.take z)) W (by rw [txt_size, List.length_take]; omega)
    obtain ⟨x, hx⟩ : ∃ x, x = txt (t.take z) := ⟨_, rfl⟩
    obtain ⟨y, hy⟩ : ∃ y, y = txt (t.drop z) := ⟨_, rfl⟩
    have Hy : Hid (y = txt (t.drop z)) := hy
    rw [← hx] at SL CL hc'
    rw [← hy] at SF
    clear hx hy
    generalize txt t = T at *
    go_wp2_with (first
      | (go_at_call 15; refine (CL _).mono ?_; rintro e w2 ⟨rfl, B2⟩; have O2 := (VOwn.below O B2).below (belowA w2 (.cells #[.string x] 9)); have X6 : (w2.alloc (.cells #[.string x] 9)).cell? ⟨w2.heap.size, 0, none⟩ = some (.string x) := (blk_new w2 _ _).cell 0 rfl; have B3 := below_then (below_then B B2) (belowA w2 (.cells #[.string x] 9)); have z3 := B3.size; generalize hw3 : w2.alloc (.cells #[.string x] 9) = w3 at *)
      | (at_builtin; refine wpList_append_val rfl _ _ 9 23 (.string ⟨#[]⟩) 16 Tryd.underlying23 Tryd.infoStr rfl rfl w.heap.size _ _ _ rfl O2 w2.heap.size (.string x) rfl X6 rfl (by omega) (by omega) (by omega) ?_; intro v' w7 O7 B7 G7; obtain ⟨a7, c7, rfl, _⟩ := VOwn.arg O7))
    go_roundg g
    case measure => omega
    case rel =>
      refine ⟨g, t.drop z, P ++ [x], a7, c7, rfl, h1, by rw [List.length_append, List.length_singleton]; omega, by rw [Hy.out], by rw [List.length_append, List.length_singleton], hc', ?_, B3.trans B7⟩
      rw [List.length_append, List.length_singleton]
      have e9 : strs (P ++ [x]) = strs P ++ [.string x] := by simp [strs]
      rw [e9]
      exact O7
  · have d4' : ¬ (z : Int) < (t.length : Int) := by omega
    rw [cutL_end d4] at hc
    have CL := fun W => clone_any (txt t) W (by rw [txt_size]; omega)
    have hc' : P ++ [txt t] = cutS l z := by rw [← hc]; simp
    clear hc
    generalize txt t = T at *
    go_wp2_with (first
      | (go_at_call 15; refine (CL _).mono ?_; rintro e w2 ⟨rfl, B2⟩; have O2 := (VOwn.below O B2).below (belowA w2 (.cells #[.string T] 9)); have X6 : (w2.alloc (.cells #[.string T] 9)).cell? ⟨w2.heap.size, 0, none⟩ = some (.string T) := (blk_new w2 _ _).cell 0 rfl; have B3 := below_then (below_then B B2) (belowA w2 (.cells #[.string T] 9)); have z3 := B3.size; generalize hw3 : w2.alloc (.cells #[.string T] 9) = w3 at *)
      | (at_builtin; refine wpList_append_val rfl _ _ 9 23 (.string ⟨#[]⟩) 16 Tryd.underlying23 Tryd.infoStr rfl rfl w.heap.size _ _ _ rfl O2 w2.heap.size (.string T) rfl X6 rfl (by omega) (by omega) (by omega) ?_; intro v' w7 O7 B7 G7; obtain ⟨a7, c7, rfl, _⟩ := VOwn.arg O7))
    go_ret2
    have e8 : (cutS l z).length = P.length + 1 := by rw [← hc', List.length_append, List.length_singleton]
    have e9 : strs (cutS l z) = strs P ++ [.string T] := by rw [← hc']; simp [strs]
    rw [e8, e9]
    exact ⟨a7, c7, rfl, O7, B3.trans B7⟩
end Go.Proofs.YtdopcagikcdfcaaDoor
