/- Rows of values in memory: those that are read, those that are one's own; texts as lists of bytes. -/
import Derived.Test.YtdopcagikcdfcaaDoorRowA
import Derived.Test.YtdopcagikcdfcaaDoorShelf
import Derived.Laws.Rows
import Derived.Laws.OwnMore
import Derived.Laws.CopyRow
import Derived.Laws.IdiomCopy
import Derived.Deep.CutRange
import Derived.Shelf.Abstract
namespace Go.Proofs.YtdopcagikcdfcaaDoor
open Go.ChangeShapes Go.WideShapes Go.ChangeAt Go.RowKit
theorem belowA (w : World) (o : Obj) : Below w.heap.size w (w.alloc o) := (Below.refl _ w).alloc (Nat.le_refl _) o
theorem belowR {B g : Nat} {w0 w : World} (hb : Below B w0 w) (hg : B ≤ g) (cs : Array Value) : Below B w0 (w.setRow g cs) :=
  ⟨hb.os, hb.tape, hb.output, by simpa using hb.size, fun k hk => (setRow_other _ _ _ _ (by omega)).trans (hb.block k hk)⟩
theorem belowS {B : Nat} {w0 w : World} (hb : Below B w0 w) {a : Addr} (hg : B ≤ a.block) (v : Value) : Below B w0 (w.setCell a v) :=
  ⟨hb.os, hb.tape, hb.output, by simpa [World.setCell] using hb.size, fun k hk => (Below.heap_setCell _ _ _ _ (by omega)).trans (hb.block k hk)⟩
theorem sl_to (l : List UInt8) (n : Nat) (I : Int) (hI : I = (n : Int)) (h : n ≤ l.length) (W : World) :
    (Instr.slice 9 (.string (txt l)) none (some (.int .i64 I)) none).run Tryd.prog W = .ok (.string (txt (l.take n))) W := by
  subst hI
  rw [run_slice_string_to_if W _ _ _ _ Tryd.underlying9, if_pos ⟨by omega, by rw [txt_size]; omega⟩]
  rw [extract_txt]
  simp
theorem slice_fr (l : List UInt8) (n : Nat) (I : Int) (hI : I = (n : Int)) (h : n ≤ l.length) (W : World) :
    (Instr.slice 9 (.string (txt l)) (some (.int .i64 I)) none none).run Tryd.prog W = .ok (.string (txt (l.drop n))) W := by
  subst hI
  rw [run_slice_string_from_if W _ _ _ _ Tryd.underlying9, if_pos ⟨by omega, by rw [txt_size]; omega⟩]
  rw [extract_txt, txt_size, Int.toNat_natCast, List.take_of_length_le (by rw [List.length_drop]; omega)]
theorem cutl_any (l : List UInt8) (n : Nat) (w : World) :
   Calls Tryd.prog 5 #[.string (txt l), .int .i64 (n : Int)] w fun e w' => e = .returned (.string (txt (l.take n))) ∧ w' = w := by
  by_cases c : n < l.length
  · have SL := sl_to l n (n : Int) rfl (by omega)
    have hz : ((txt l).size : Int) = (l.length : Int) := by rw [txt_size]
    generalize txt (l.take n) = X at *
    generalize txt l = Y at *
    go_enter Tryd.func5, Tryd.ntmps5
    go_wp2_with fail
    go_ret
    exact ⟨rfl, rfl⟩
  · rw [List.take_of_length_le (by omega)]
    have hz : ((txt l).size : Int) = (l.length : Int) := by rw [txt_size]
    generalize txt l = Y at *
    go_enter Tryd.func5, Tryd.ntmps5
    go_wp2_with fail
    go_ret
    exact ⟨rfl, rfl⟩
theorem run_eql_nil (w : World) (t e : TypeId) (a : Option Addr) (l c : Nat) (h : Tryd.prog.underlying t = some (.slice e)) : (binOp .eql t (.slice a l c) (.slice none 0 0)).run Tryd.prog w = .ok (.bool a.isNone) w := by
  simp [binOp, run_equal_slice_nil w t e a l c h]
/-- A slice whose cells read as L. -/
structure VArg (w : World) (ao : Option Addr) (n ca : Nat) (L : List Value) : Prop where
  len : L.length = n
  fit : n ≤ ca
  max : ca ≤ 9223372036854775807
  nil : ao = none → ca = 0
  cells : 0 < n → ∃ b o, ao = some ⟨b, o, none⟩ ∧ ∀ t, t < n → w.cell? ⟨b, o + t, none⟩ = L[t]?
theorem VArg.of_block {w w' : World} {ao : Option Addr} {n ca : Nat} {L : List Value} (h : VArg w ao n ca L) (hb : ∀ b o s, ao = some ⟨b, o, s⟩ → b < w.heap.size → w'.heap[b]? = w.heap[b]?) : VArg w' ao n ca L := by
  refine ⟨h.len, h.fit, h.max, h.nil, fun hn => ?_⟩
  obtain ⟨b, o, e, hc⟩ := h.cells hn
  refine ⟨b, o, e, fun t ht => ?_⟩
  have h1 := hc t ht
  have hl := h.len
  rw [List.getElem?_eq_getElem (by omega)] at h1
  have hlt : b < w.heap.size := by simpa using World.block_lt_of_cell? w _ h1
  have h2 := hb b o none e hlt
  rw [← hc t ht]
  unfold World.cell?
  simp only [h2]
theorem VArg.below {w w' : World} {ao : Option Addr} {n ca : Nat} {L : List Value} (h : VArg w ao n ca L) (hb : Below w.heap.size w w') : VArg w' ao n ca L := h.of_block (fun b _ _ _ hl => hb.block b hl)
theorem varg_nil (w : World) : VArg w none 0 0 [] := ⟨rfl, by omega, by omega, fun _ => rfl, fun h => by omega⟩
theorem VArg.vals {w : World} {ad : Addr} {n ca : Nat} {L : List Value} (h : VArg w (some ad) n ca L) : ∀ j u, L[j]? = some u → w.cell? (ad.add j) = some u := by
  intro j u hj
  have hl := h.len
  have hjm : j < n := by
    have := (List.getElem?_eq_some_iff.1 hj).1
    omega
  obtain ⟨b, o', e, hcell⟩ := h.cells (by omega)
  simp only [Option.some.injEq] at e
  subst e
  have e2 : (Addr.mk b o' none).add j = ⟨b, o' + j, none⟩ := by simp [Addr.add]
  rw [e2, hcell j hjm, hj]
theorem VArg.take {w : World} {ao : Option Addr} {n ca : Nat} {L : List Value} (h : VArg w ao n ca L) {m : Nat} (hm : m ≤ n) : VArg w ao m ca (L.take m) := by
  have hl := h.len
  have hf := h.fit
  refine ⟨by rw [List.length_take]; omega, by omega, h.max, h.nil, fun hn => ?_⟩
  obtain ⟨b, o, e, hc⟩ := h.cells (by omega)
  refine ⟨b, o, e, fun t ht => ?_⟩
  rw [hc t (by omega), List.getElem?_take, if_pos ht]
/-- A row of the call's own, from block B on. -/
def VOwn (w : World) (B : Nat) (T : TypeId) (v : Value) (n : Nat) (L : List Value) : Prop := w.ownsRow B T 1 v n L
theorem VOwn.len {w : World} {B : Nat} {T : TypeId} {v : Value} {n : Nat} {L : List Value} (h : VOwn w B T v n L) : L.length = n := by have := h.1; omega
theorem VOwn.of_block {w w' : World} {B : Nat} {T : TypeId} {v : Value} {n : Nat} {L : List Value} (h : VOwn w B T v n L) (hb : ∀ g, v.ownBlock = some g → B ≤ g → g < w.heap.size → w'.heap[g]? = w.heap[g]?) : VOwn w' B T v n L := by
  refine ⟨h.1, ?_⟩
  rcases h.2 with h2 | ⟨g, cap, cur, h3, h4, h5, h6⟩
  · exact Or.inl h2
  · exact Or.inr ⟨g, cap, cur, h3, h4, (hb g (by rw [h3]; rfl) h4 (Array.getElem?_eq_some_iff.1 h5).1).trans h5, h6⟩
theorem VOwn.below {w w' : World} {B : Nat} {T : TypeId} {v : Value} {n : Nat} {L : List Value} (h : VOwn w B T v n L) (hb : Below w.heap.size w w') : VOwn w' B T v n L := h.of_block (fun g _ _ hg => hb.block g hg)
theorem VOwn.base {w : World} {B B' : Nat} {T : TypeId} {v : Value} {n : Nat} {L : List Value} (h : VOwn w B T v n L) (hB : B' ≤ B) : VOwn w B' T v n L := by
  refine ⟨h.1, ?_⟩
  rcases h.2 with h2 | ⟨g, cap, cur, h3, h4, h5⟩
  · exact Or.inl h2
  · exact Or.inr ⟨g, cap, cur, h3, by omega, h5⟩
theorem VOwn.arg {w : World} {B : Nat} {T : TypeId} {v : Value} {n : Nat} {L : List Value} (h : VOwn w B T v n L) : ∃ ao c, v = .slice ao n c ∧ VArg w ao n c L := by
  have hl := h.len
  rcases h.2 with ⟨h3, h4⟩ | ⟨g, cap, cur, hv, hg, hh, h5, h6, h7, h8⟩
  · subst h4
    obtain rfl : L = [] := List.length_eq_zero_iff.1 hl
    exact ⟨none, 0, h3, varg_nil w⟩
  · subst hv
    have hm : cap ≤ 9223372036854775807 := by simpa [maxLen] using h6
    refine ⟨_, _, rfl, hl, h5, hm, fun h => (by cases h), fun hn => ⟨g, 0, rfl, fun t ht => ?_⟩⟩
    rw [Nat.zero_add]
    exact World.ownsRow.cellAt h t (by omega)
theorem VOwn.varg {w : World} {B : Nat} {T : TypeId} {ao : Option Addr} {n c : Nat} {L : List Value} (h : VOwn w B T (.slice ao n c) n L) : VArg w ao n c L := by
  obtain ⟨a, c', e, R⟩ := h.arg
  injection e with e1 e2 e3
  subst e1; subst e3
  exact R
theorem vown_nil (w : World) (B : Nat) (T : TypeId) : VOwn w B T (.slice none 0 0) 0 [] := World.ownsRow_nil _ _ _ _
theorem vown_new (w : World) (T : TypeId) : VOwn (w.alloc (.cells #[] T)) w.heap.size T (.slice (some ⟨w.heap.size, 0, none⟩) 0 0) 0 [] := World.ownsRow_made w #[] 0 (Nat.le_refl _) (by decide) rfl
/-- Where an own row that has a place lies. -/
theorem VOwn.block {w : World} {B : Nat} {T : TypeId} {v : Value} {n : Nat} {L : List Value} (h : VOwn w B T v n L) (hn : 0 < n) : ∃ g c cur, v = .slice (some ⟨g, 0, none⟩) n c ∧ B ≤ g ∧ w.heap[g]? = some (.cells cur T (0, 0)) ∧ g < w.heap.size := by
  rcases h.2 with ⟨h3, h4⟩ | ⟨g, cap, cur, hv, hg, hh, h5, h6, h7, h8⟩
  · omega
  · exact ⟨g, cap, cur, hv, hg, hh, (Array.getElem?_eq_some_iff.1 hh).1⟩
theorem VOwn.set {w : World} {B : Nat} {T : TypeId} {g n c : Nat} {L : List Value} (h : VOwn w B T (.slice (some ⟨g, 0, none⟩) n c) n L) (j : Nat) (u : Value) : VOwn (w.setCell ⟨g, j, none⟩ u) B T (.slice (some ⟨g, 0, none⟩) n c) n (L.set j u) := (World.ownsRow.stored h j u).1
theorem VOwn.frozen {w : World} {B : Nat} {T : TypeId} {g n c : Nat} {L : List Value} (h : VOwn w B T (.slice (some ⟨g, 0, none⟩) n c) n L) (j : Nat) : w.frozen? ⟨g, j, none⟩ = false := World.ownsRow.frozenAt h j
/-- append of one value that lies in a block of its own. -/
theorem wpList_append_val {ops : Array Oper} {rest : List Oper} {o : Oper} {a : Act} {Q : Exit → Act → World → Prop} {w : World} (hg : o.guard = none) (s x : Operand) (T TS : TypeId) (z : Value) (by_ : Nat) (hT : Tryd.prog.underlying TS = some (.slice T)) (hi : (Tryd.prog.info? T).map (fun i => (i.zero, i.size, i.bytes)) = some (some z, 1, by_)) (hz : z.cells.size = 1)
    (ho : o.op = .call { callee := .builtin .append, args := #[s, x], argTypes := #[TS, TS] }) (B : Nat) (v : Value) (n : Nat) (L : List Value) (hs : a.eval s = v) (hO : VOwn w B T v n L)
    (c : Nat) (y : Value) (hx : a.eval x = .slice (some ⟨c, 0, none⟩) 1 1) (hc : w.cell? ⟨c, 0, none⟩ = some y) (hy : y.oneCell' = true) (hn : (n + 1) * by_ ≤ 140737488355328) (hn2 : n ≤ 140737488355328) (hB : B ≤ w.heap.size)
    (hK : ∀ v' w', VOwn w' B T v' (n + 1) (L ++ [y]) → Below B w w' → w.grownBy w' v.ownBlock → wpList Tryd.prog ops Q rest (a.put o.dst v') w') : wpList Tryd.prog ops Q (o :: rest) a w := by
  obtain ⟨i0, hi0, hz0, hz1, hz2⟩ := info_parts hi
  refine wpList_append_own _ hg s x TS ho B T i0 z 1 by_ hT hi0 hz0 hz1 hz2 hz (by decide) v n L hs hO ⟨c, 0, none⟩ 1 1 [y] hx (by simp) (fun j u hj => ?_) (fun u hu => by simp at hu; subst hu; exact hy) (by unfold maxLen; omega) hn hB ?_
  · cases j with
    | zero => simp at hj; subst hj; simpa [Addr.add] using hc
    | succ j => simp at hj
  · intro v' w' O1 G1 _
    exact hK v' w' O1 ((Below.refl _ _).grown G1 hB (fun k hk => (World.ownsRow.lt hO k hk).1)) G1
theorem Tryd.infoStr : (Tryd.prog.info? 9).map (fun i => (i.zero, i.size, i.bytes)) = some (some (.string ⟨#[]⟩), 1, 16) := by kernel_rfl
theorem Tryd.infoBool : (Tryd.prog.info? 4).map (fun i => (i.zero, i.size, i.bytes)) = some (some (.bool false), 1, 1) := by kernel_rfl
theorem sclone_any (ao : Option Addr) (n ca : Nat) (L : List Value) (w : World) (hA : VArg w ao n ca L) (h1 : ∀ u ∈ L, u.oneCell' = true) (hn : n * 16 ≤ 140737488355328) :
   Calls Tryd.prog 37 #[.slice ao n ca] w fun e w' => ∃ a c, e = .returned (.slice a n c) ∧ VOwn w' w.heap.size 9 (.slice a n c) n L ∧ Below w.heap.size w w' := by
  cases ao with
  | none =>
    have hc0 := hA.nil rfl
    subst hc0
    obtain rfl : n = 0 := by have := hA.fit; omega
    obtain rfl : L = [] := List.length_eq_zero_iff.1 hA.len
    have hq : ∀ w : World, (binOp .eql 23 (.slice none 0 0) (.slice none 0 0)).run Tryd.prog w = .ok (.bool true) w := fun w => run_eql_nil w _ 9 _ _ _ Tryd.underlying23
    go_enter Tryd.func37, Tryd.ntmps37
    go_wp2
    go_ret
    exact ⟨_, _, rfl, vown_nil _ _ _, Below.refl _ _⟩
  | some ad =>
    obtain ⟨i0, hi, hz0, hz1, hz2⟩ := info_parts Tryd.infoStr
    have B0 := belowA w (.cells #[] 9)
    have O0 := vown_new w 9
    have hv2 := (hA.below B0).vals
    have hl := hA.len
    have hq : ∀ w : World, (binOp .eql 23 (.slice (some ad) n ca) (.slice none 0 0)).run Tryd.prog w = .ok (.bool false) w := fun w => run_eql_nil w _ 9 _ _ _ Tryd.underlying23
    go_enter Tryd.func37, Tryd.ntmps37
    go_wp2_with (at_builtin; refine wpList_append_own _ rfl _ _ 23 rfl w.heap.size 9 i0 (.string ⟨#[]⟩) 1 16 Tryd.underlying23 hi hz0 hz1 hz2 rfl (by decide) _ 0 [] rfl O0 ad n ca L rfl (by simp [hl]) hv2 h1 (by unfold maxLen; omega) (by omega) (by simp) ?_; intro v' w' O1 G1 N1)
    have hb : Below w.heap.size (w.alloc (.cells #[] 9)) w' := (Below.refl _ _).grown G1 (by simp) (fun k hk => (World.ownsRow.lt O0 k hk).1)
    rw [Nat.zero_add, List.nil_append] at O1
    obtain ⟨a, c, rfl, _⟩ := VOwn.arg O1
    go_ret
    exact ⟨a, c, rfl, O1, B0.trans hb⟩
theorem bclone_any (ao : Option Addr) (n ca : Nat) (L : List Value) (w : World) (hA : VArg w ao n ca L) (h1 : ∀ u ∈ L, u.oneCell' = true) (hn : n ≤ 140737488355328) :
   Calls Tryd.prog 38 #[.slice ao n ca] w fun e w' => ∃ a c, e = .returned (.slice a n c) ∧ VOwn w' w.heap.size 4 (.slice a n c) n L ∧ Below w.heap.size w w' := by
  cases ao with
  | none =>
    have hc0 := hA.nil rfl
    subst hc0
    obtain rfl : n = 0 := by have := hA.fit; omega
    obtain rfl : L = [] := List.length_eq_zero_iff.1 hA.len
    have hq : ∀ w : World, (binOp .eql 28 (.slice none 0 0) (.slice none 0 0)).run Tryd.prog w = .ok (.bool true) w := fun w => run_eql_nil w _ 4 _ _ _ Tryd.underlying28
    go_enter Tryd.func38, Tryd.ntmps38
    go_wp2
    go_ret
    exact ⟨_, _, rfl, vown_nil _ _ _, Below.refl _ _⟩
  | some ad =>
    obtain ⟨i0, hi, hz0, hz1, hz2⟩ := info_parts Tryd.infoBool
    have B0 := belowA w (.cells #[] 4)
    have O0 := vown_new w 4
    have hv2 := (hA.below B0).vals
    have hl := hA.len
    have hq : ∀ w : World, (binOp .eql 28 (.slice (some ad) n ca) (.slice none 0 0)).run Tryd.prog w = .ok (.bool false) w := fun w => run_eql_nil w _ 4 _ _ _ Tryd.underlying28
    go_enter Tryd.func38, Tryd.ntmps38
    go_wp2_with (at_builtin; refine wpList_append_own _ rfl _ _ 28 rfl w.heap.size 4 i0 (.bool false) 1 1 Tryd.underlying28 hi hz0 hz1 hz2 rfl (by decide) _ 0 [] rfl O0 ad n ca L rfl (by simp [hl]) hv2 h1 (by unfold maxLen; omega) (by omega) (by simp) ?_; intro v' w' O1 G1 N1)
    have hb : Below w.heap.size (w.alloc (.cells #[] 4)) w' := (Below.refl _ _).grown G1 (by simp) (fun k hk => (World.ownsRow.lt O0 k hk).1)
    rw [Nat.zero_add, List.nil_append] at O1
    obtain ⟨a, c, rfl, _⟩ := VOwn.arg O1
    go_ret
    exact ⟨a, c, rfl, O1, B0.trans hb⟩
end Go.Proofs.YtdopcagikcdfcaaDoor
