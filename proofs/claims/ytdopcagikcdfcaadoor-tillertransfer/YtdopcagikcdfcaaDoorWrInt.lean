/- Rows of whole numbers in memory; at most so many of them, in memory of one's own; blocks of cells; rows of bytes of the program's own. -/
import Derived.Test.YtdopcagikcdfcaaDoorRows
import Derived.Test.YtdopcagikcdfcaaDoorFFour
import Derived.Deep.OwnRows
import Derived.Deep.LoopGhost
import Derived.Deep.RegionWith
import Derived.Deep.RegionLaw
import Derived.Deep.QuietTactic
import Derived.Laws.Tables
import Derived.Laws.Rows
import Derived.Laws.ResultCell
import Derived.Laws.AppendOwnNone
import Derived.Laws.CopyOwn
import Derived.Lib.SliceRun
import Derived.Lib.AppendStr
import Derived.Lib.Hide
import Derived.Shelf.Abstract
namespace Go.Proofs.YtdopcagikcdfcaaDoor
open Go.ChangeShapes Go.WideShapes Go.ChangeAt Go.RowKit
/-- The number at a place of a row; beyond its end: nought. -/
def el (A : List Int) (k : Nat) : Int := A.getD k 0
theorem el_over {A : List Int} {k : Nat} (h : A.length ≤ k) : el A k = 0 := by
  unfold el; rw [List.getD_eq_getElem?_getD, List.getElem?_eq_none h]; rfl
theorem el_take {A : List Int} {n k : Nat} (h : k < n) : el (A.take n) k = el A k := by
  unfold el; simp [List.getD_eq_getElem?_getD, h]
/-- In w the slice of whole numbers that begins at ao reads as A. -/
structure IRowAt (w : World) (ao : Option Addr) (n : Nat) (A : List Int) : Prop where
  len : A.length = n
  max : n ≤ 9223372036854775807
  small : ∀ k, -9223372036854775808 ≤ el A k ∧ el A k ≤ 9223372036854775807
  cells : 0 < n → ∃ b o, ao = some ⟨b, o, none⟩ ∧ ∀ t, t < n → w.cell? ⟨b, o + t, none⟩ = some (.int .i64 (el A t))
structure IArg (w : World) (ao : Option Addr) (n ca : Nat) (A : List Int) : Prop where
  row : IRowAt w ao n A
  fit : n ≤ ca
  max : ca ≤ 9223372036854775807
  nil : ao = none → ca = 0
theorem IRowAt.below {w w' : World} {ao : Option Addr} {n : Nat} {A : List Int} (h : IRowAt w ao n A) (hb : Below w.heap.size w w') : IRowAt w' ao n A := by
  refine ⟨h.len, h.max, h.small, fun hn => ?_⟩
  obtain ⟨b, o, e, hc⟩ := h.cells hn
  refine ⟨b, o, e, fun t ht => ?_⟩
  have h1 := hc t ht
  have hlt : b < w.heap.size := by simpa using World.block_lt_of_cell? w _ h1
  rw [hb.cell (by exact hlt)]
  exact h1
theorem IArg.below {w w' : World} {ao : Option Addr} {n ca : Nat} {A : List Int} (h : IArg w ao n ca A) (hb : Below w.heap.size w w') : IArg w' ao n ca A := ⟨h.row.below hb, h.fit, h.max, h.nil⟩
theorem iarg_nil (w : World) : IArg w none 0 0 [] := ⟨⟨rfl, by omega, fun k => by simp [el], fun h => by omega⟩, by omega, by omega, fun _ => rfl⟩
theorem IRowAt.vals {w : World} {ad : Addr} {n : Nat} {A : List Int} (h : IRowAt w (some ad) n A) : ∀ j u, (A.map (Value.int .i64))[j]? = some u → w.cell? (ad.add j) = some u := by
  intro j u hj
  have hl := h.len
  have hjm : j < n := by
    have := (List.getElem?_eq_some_iff.1 hj).1
    simpa [hl] using this
  obtain ⟨b, o', e, hcell⟩ := h.cells (by omega)
  simp only [Option.some.injEq] at e
  subst e
  have e2 : (Addr.mk b o' none).add j = ⟨b, o' + j, none⟩ := by simp [Addr.add]
  rw [e2, hcell j hjm]
  rw [List.getElem?_map, List.getElem?_eq_getElem (show j < A.length by omega)] at hj
  simp only [Option.map_some, Option.some.injEq] at hj
  rw [← hj]
  unfold el
  simp [List.getD_eq_getElem?_getD, List.getElem?_eq_getElem (show j < A.length by omega)]
/-- A row of whole numbers of the call's own. -/
def IOwn (w : World) (B : Nat) (v : Value) (n : Nat) (A : List Int) : Prop := w.ownsRow B 3 1 v n (A.map (Value.int .i64))
theorem Tryd.infoInt : (Tryd.prog.info? 3).map (fun i => (i.zero, i.size, i.bytes)) = some (some (.int .i64 0), 1, 8) := by kernel_rfl
theorem IOwn.arg {w : World} {B : Nat} {v : Value} {n : Nat} {A : List Int} (h : IOwn w B v n A) (hs : ∀ k, -9223372036854775808 ≤ el A k ∧ el A k ≤ 9223372036854775807) : ∃ ao c, v = .slice ao n c ∧ IArg w ao n c A := by
  have hl : A.length = n := by have := h.1; simpa using this
  rcases h.2 with ⟨h3, h4⟩ | ⟨g, cap, cur, hv, hg, hh, h5, h6, h7, h8⟩
  · subst h4
    obtain rfl : A = [] := List.length_eq_zero_iff.1 hl
    exact ⟨none, 0, h3, iarg_nil w⟩
  · subst hv
    have hm : cap ≤ 9223372036854775807 := by simpa [maxLen] using h6
    refine ⟨_, _, rfl, ⟨hl, by omega, hs, fun hn => ⟨g, 0, rfl, fun t ht => ?_⟩⟩, h5, hm, fun h => by cases h⟩
    have hc := World.ownsRow.cells h (g := g) rfl t (.int .i64 (el A t)) (by
      rw [List.getElem?_map, List.getElem?_eq_getElem (show t < A.length by omega)]
      unfold el
      simp [List.getD_eq_getElem?_getD, List.getElem?_eq_getElem (show t < A.length by omega)])
    have e2 : (Addr.mk g 0 none).add t = ⟨g, t, none⟩ := by simp [Addr.add]; intro h; exact h.symm
    rw [e2] at hc
    rw [Nat.zero_add]
    exact hc
theorem IArg.take {w : World} {ao : Option Addr} {n ca : Nat} {A : List Int} (h : IArg w ao n ca A) {m : Nat} (hm : m ≤ n) : IArg w ao m ca (A.take m) := by
  have hl := h.row.len
  have hf := h.fit
  refine ⟨⟨by rw [List.length_take]; omega, by have := h.row.max; omega, fun k => ?_, fun hn => ?_⟩, by omega, h.max, h.nil⟩
  · rcases Nat.lt_or_ge k m with hk | hk
    · rw [el_take hk]; exact h.row.small k
    · rw [el_over (by rw [List.length_take]; omega)]; omega
  · obtain ⟨b, o, e, hc⟩ := h.row.cells (by omega)
    refine ⟨b, o, e, fun t ht => ?_⟩
    rw [el_take ht]
    exact hc t (by omega)
theorem IArg.take_small {w : World} {ao : Option Addr} {n ca : Nat} {A : List Int} (h : IArg w ao n ca A) (m : Nat) : ∀ k, -9223372036854775808 ≤ el (A.take m) k ∧ el (A.take m) k ≤ 9223372036854775807 := fun k => by
  rcases Nat.lt_or_ge k m with hk | hk
  · rw [el_take hk]; exact h.row.small k
  · rw [el_over (by rw [List.length_take]; omega)]; omega
/-- Block g has the cells cs. -/
def Blk (w : World) (g : Nat) (T : TypeId) (cs : Array Value) : Prop := w.heap[g]? = some (.cells cs T (0, 0))
theorem blk_new (w : World) (T : TypeId) (cs : Array Value) : Blk (w.alloc (.cells cs T)) w.heap.size T cs := heap_alloc_new _ _
theorem Blk.lt {w : World} {g : Nat} {T : TypeId} {cs : Array Value} (h : Blk w g T cs) : g < w.heap.size := (Array.getElem?_eq_some_iff.1 h).1
theorem Blk.of_block {w w' : World} {g : Nat} {T : TypeId} {cs : Array Value} (h : Blk w g T cs) (e : w'.heap[g]? = w.heap[g]?) : Blk w' g T cs := Eq.trans e h
theorem Blk.below {w w' : World} {g : Nat} {T : TypeId} {cs : Array Value} (h : Blk w g T cs) (hb : Below w.heap.size w w') : Blk w' g T cs := h.of_block (hb.block g h.lt)
theorem Blk.cell {w : World} {g : Nat} {T : TypeId} {cs : Array Value} (h : Blk w g T cs) (i : Nat) {v : Value} (hv : cs[i]? = some v) : w.cell? ⟨g, i, none⟩ = some v := by
  unfold Blk at h; unfold World.cell?; simp only [h]; exact hv
theorem Blk.frozen {w : World} {g : Nat} {T : TypeId} {cs : Array Value} (h : Blk w g T cs) (k : Nat) : w.frozen? ⟨g, k, none⟩ = false := by unfold Blk at h; unfold World.frozen?; simp only [h]; rfl
theorem Blk.set {w : World} {g : Nat} {T : TypeId} {cs : Array Value} (h : Blk w g T cs) (i : Nat) (v : Value) : Blk (w.setCell ⟨g, i, none⟩ v) g T (cs.setIfInBounds i v) := by
  unfold Blk at *
  simp [World.setCell, Array.getElem?_modify, h]
theorem Blk.other {w : World} {g : Nat} {T : TypeId} {cs : Array Value} (h : Blk w g T cs) {a : Addr} (ha : g ≠ a.block) (v : Value) : Blk (w.setCell a v) g T cs := h.of_block (Below.heap_setCell _ _ _ _ ha)
theorem Blk.row {w : World} {g : Nat} {T : TypeId} {cs : Array Value} (h : Blk w g T cs) (ds : Array Value) : Blk (w.setRow g ds) g T ds := setRow_heap _ _ _ _ _ _ h
theorem Blk.next {w w' : World} {g : Nat} {T : TypeId} {cs : Array Value} (h : Blk w g T cs) (hb : Below w.heap.size w w') : Blk w' g T cs := h.of_block (hb.block g h.lt)
theorem owns_below {w w' : World} {B n : Nat} {e : TypeId} {v : Value} {xs : List Value} (h : w.ownsRow B e 1 v n xs) (hb : Below w.heap.size w w') : w'.ownsRow B e 1 v n xs := by
  obtain ⟨h1, h2⟩ := h
  refine ⟨h1, ?_⟩
  rcases h2 with h2 | ⟨g, cap, cur, hv, hg, hh, r⟩
  · exact Or.inl h2
  · exact Or.inr ⟨g, cap, cur, hv, hg, by rw [hb.block g (Array.getElem?_eq_some_iff.1 hh).1]; exact hh, r⟩
/-- A row of bytes of the call's own. -/
def BOwn (w : World) (B : Nat) (v : Value) (l : List UInt8) : Prop := w.ownsRow B 5 1 v l.length (l.map fun b => Value.int .u8 (b.toNat : Int))
theorem Tryd.infoByte : (Tryd.prog.info? 5).map (fun i => (i.zero, i.size, i.bytes)) = some (some (.int .u8 0), 1, 1) := by kernel_rfl
theorem bown_nil (w : World) (B : Nat) : BOwn w B (.slice none 0 0) [] := World.ownsRow_nil _ _ _ _
theorem BOwn.below {w w' : World} {B : Nat} {v : Value} {l : List UInt8} (h : BOwn w B v l) (hb : Below w.heap.size w w') : BOwn w' B v l := owns_below h hb
theorem bytes_oneCell (l : List UInt8) : ∀ u ∈ l.map (fun b => Value.int .u8 (b.toNat : Int)), u.oneCell' = true := by
  intro u hu
  obtain ⟨b, _, rfl⟩ := List.mem_map.1 hu
  rfl
/-- append of one byte that was just laid. -/
theorem wpList_append_byte {w : World} {ops : Array Oper} {rest : List Oper} {o : Oper} {a : Act} {Q : Exit → Act → World → Prop} (hgd : o.guard = none) (s x : Operand)
    (ho : o.op = .call { callee := .builtin .append, args := #[s, x], argTypes := #[51, 51] })
    (B : Nat) (v : Value) (l : List UInt8) (hs : a.eval s = v) (hO : BOwn w B v l)
    (g : Nat) (b : UInt8) (hx : a.eval x = .slice (some ⟨g, 0, none⟩) 1 1) (hX : w.cell? ⟨g, 0, none⟩ = some (.int .u8 (b.toNat : Int))) (hlen : l.length + 1 ≤ 1048576) (hB : B ≤ w.heap.size)
    (h : ∀ v' w', BOwn w' B v' (l ++ [b]) → Below B w w' → wpList Tryd.prog ops Q rest (a.put o.dst v') w') : wpList Tryd.prog ops Q (o :: rest) a w := by
  obtain ⟨i0, hi, hz0, hz1, hz2⟩ := info_parts Tryd.infoByte
  refine wpList_append_own w hgd s x 51 ho B 5 i0 (.int .u8 0) 1 1 Tryd.underlying51 hi hz0 hz1 hz2 rfl (by decide) _ l.length _ hs hO ⟨g, 0, none⟩ 1 1 [.int .u8 (b.toNat : Int)] hx rfl ?_ (by intro u hu; simp at hu; subst hu; rfl) (by unfold maxLen; omega) (by omega) hB ?_
  · intro j u hj
    match j, hj with
    | 0, hj =>
      simp at hj
      subst hj
      exact hX
  · intro v' w' hown' hgr _
    have hb : Below B w w' := (Below.refl _ _).grown hgr hB (fun k hk => (hO.lt k hk).1)
    refine h v' w' ?_ hb
    have e : (l ++ [b]).map (fun b => Value.int .u8 (b.toNat : Int)) = l.map (fun b => Value.int .u8 (b.toNat : Int)) ++ [.int .u8 (b.toNat : Int)] := by simp
    unfold BOwn
    rw [e, List.length_append]
    exact hown'
/-- The text of a row of bytes. -/
theorem BOwn.conv {w : World} {B : Nat} {v : Value} {l : List UInt8} (h : BOwn w B v l) : (convert 51 9 v).run Tryd.prog w = .ok (.string (txt l)) w := by
  rcases h.2 with ⟨h3, h4⟩ | ⟨g, cap, cur, hv, hg, hh, h5, h6, h7, h8⟩
  · obtain rfl : l = [] := List.length_eq_zero_iff.1 h4
    subst h3
    kernel_rfl
  · subst hv
    refine run_convert_bytes_back (P := Tryd.prog) w 51 9 5 ⟨g, 0, none⟩ cap l Tryd.underlying51 Tryd.underlying5 Tryd.underlying9 (fun j hj => ?_)
    exact World.ownsRow.cells h (g := g) rfl j (.int .u8 ((l[j]).toNat : Int)) (by rw [List.getElem?_map, List.getElem?_eq_getElem hj]; rfl)
end Go.Proofs.YtdopcagikcdfcaaDoor
