/- Clocks as they lie in memory; what ticks make of them. -/
import Derived.Test.YtdopcagikcdfcaaDoorRows
import Derived.Test.YtdopcagikcdfcaaDoorKin
import Derived.Test.YtdopcagikcdfcaaDoorWrRead
import Derived.Test.YtdopcagikcdfcaaDoorWrBur
import Derived.Deep.OwnRows
import Derived.Deep.LoopGhost
import Derived.Deep.RegionWith
import Derived.Deep.QuietTactic
import Derived.Laws.Tables
import Derived.Laws.AppendOwnNone
import Derived.Lib.SliceRun
import Derived.Lib.Hide
namespace Go.Proofs.YtdopcagikcdfcaaDoor
open Go.ChangeShapes Go.WideShapes Go.ChangeAt Go.RowKit
/-- Of what was there only block g has turned. -/
structure But (g : Nat) (w w' : World) : Prop where
  os : w'.os = w.os
  tape : w'.tape = w.tape
  output : w'.output = w.output
  size : w.heap.size ≤ w'.heap.size
  block : ∀ k, k < w.heap.size → k ≠ g → w'.heap[k]? = w.heap[k]?
theorem But.refl (g : Nat) (w : World) : But g w w := ⟨rfl, rfl, rfl, Nat.le_refl _, fun _ _ _ => rfl⟩
theorem But.of_below {g : Nat} {w w' : World} (h : Below w.heap.size w w') : But g w w' := ⟨h.os, h.tape, h.output, h.size, fun k hk _ => h.block k hk⟩
theorem But.trans {g : Nat} {w w1 w2 : World} (h : But g w w1) (k : But g w1 w2) : But g w w2 :=
  ⟨k.os.trans h.os, k.tape.trans h.tape, k.output.trans h.output, Nat.le_trans h.size k.size, fun i hi hg => (k.block i (Nat.lt_of_lt_of_le hi h.size) hg).trans (h.block i hi hg)⟩
theorem But.set {g : Nat} {w w' : World} (h : But g w w') (i : Nat) (v : Value) : But g w (w'.setCell ⟨g, i, none⟩ v) :=
  ⟨h.os, h.tape, h.output, by simpa using h.size, fun k hk hg => (Below.heap_setCell _ _ _ _ hg).trans (h.block k hk hg)⟩
theorem But.below {g : Nat} {w w' : World} (h : But g w w') {B : Nat} (hB : B ≤ w.heap.size) (hg : B ≤ g) : Below B w w' :=
  ⟨h.os, h.tape, h.output, h.size, fun k hk => h.block k (by omega) (by omega)⟩
theorem Blk.but {w w' : World} {g gb : Nat} {T : TypeId} {cs : Array Value} (h : Blk w gb T cs) (k : But g w w') (hg : gb ≠ g) : Blk w' gb T cs := h.of_block (k.block gb h.lt hg)
/-- How often clock i ticked, by the ticks so far (the newest first); how far it is ahead; the least and the greatest of that. -/
def cnt (H : List Nat) (i : Nat) : Int := (H.count i : Int)
def ahd (H : List Nat) (i : Nat) : Int := cnt H i - cnt H 0
def low : List Nat → Nat → Int
  | [], _ => 0
  | t :: H, i => min (low H i) (ahd (t :: H) i)
def hig : List Nat → Nat → Int
  | [], _ => 0
  | t :: H, i => max (hig H i) (ahd (t :: H) i)
theorem cnt_cons (t : Nat) (H : List Nat) (i : Nat) : cnt (t :: H) i = if i = t then cnt H i + 1 else cnt H i := by
  unfold cnt
  rw [List.count_cons]
  by_cases h : i = t
  · subst h; simp
  · have h2 : ¬ (t = i) := fun e => h e.symm
    simp [h, h2]
theorem cnt_bd (H : List Nat) (i : Nat) : 0 ≤ cnt H i ∧ cnt H i ≤ (H.length : Int) := by
  unfold cnt
  have := List.count_le_length (l := H) (a := i)
  omega
theorem ahd_bd (H : List Nat) (i : Nat) : -(H.length : Int) ≤ ahd H i ∧ ahd H i ≤ (H.length : Int) := by
  have h1 := cnt_bd H i
  have h2 := cnt_bd H 0
  unfold ahd
  omega
theorem low_bd : ∀ (H : List Nat) (i : Nat), -(H.length : Int) ≤ low H i ∧ low H i ≤ 0 ∧ low H i ≤ ahd H i
  | [], i => by simp [low, ahd, cnt]
  | t :: H, i => by
    have h1 := low_bd H i
    have h2 := ahd_bd (t :: H) i
    simp only [low, List.length_cons] at *
    omega
theorem hig_bd : ∀ (H : List Nat) (i : Nat), 0 ≤ hig H i ∧ hig H i ≤ (H.length : Int) ∧ ahd H i ≤ hig H i
  | [], i => by simp [hig, ahd, cnt]
  | t :: H, i => by
    have h1 := hig_bd H i
    have h2 := ahd_bd (t :: H) i
    simp only [hig, List.length_cons] at *
    omega
def upI (f : Nat → Int) (i : Nat) (x : Int) : Nat → Int := fun j => if j = i then x else f j
end Go.Proofs.YtdopcagikcdfcaaDoor
