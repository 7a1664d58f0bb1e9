/- Small things of TillerCarried's seat: worlds behind an allocation, an error's number. -/
import Derived.Test.YtdopcagikcdfcaaDoorFFour
namespace Go.Proofs.YtdopcagikcdfcaaDoor
open Go.ChangeShapes Go.WideShapes Go.ChangeAt Go.RowKit
theorem below_alloc (w : World) (o : Obj) : Below w.heap.size w (w.alloc o) := (Below.refl _ w).alloc (Nat.le_refl _) o
theorem cell_lt {w : World} {a : Addr} {v : Value} (h : w.cell? a = some v) : a.block < w.heap.size := by
  rcases Nat.lt_or_ge a.block w.heap.size with k | k
  · exact k
  · simp [World.cell?, Array.getElem?_eq_none k] at h
abbrev eN (n : Int) : Value := .iface 24 (.int .i64 n)
end Go.Proofs.YtdopcagikcdfcaaDoor
