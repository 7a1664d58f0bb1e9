/- More of what the laws of layer 3 call: dot products of any two rows; small numbers; the document's greatest place; rows that are overwritten. -/
import Derived.Test.YtklgaokhillinaaVecL
import Derived.Test.YtklgaokhillinaaVNum
namespace Go.Proofs.Ytklgaokhillinaa
open Go.ChangeShapes Go.WideShapes Go.ChangeAt Go.RowKit
/-- Of what was there, only blocks among gs may have turned. -/
structure Kept (gs : List Nat) (w w' : World) : Prop where
  os : w'.os = w.os
  tape : w'.tape = w.tape
  output : w'.output = w.output
  size : w.heap.size ≤ w'.heap.size
  block : ∀ k, k < w.heap.size → k ∉ gs → w'.heap[k]? = w.heap[k]?
theorem Kept.refl (gs : List Nat) (w : World) : Kept gs w w := ⟨rfl, rfl, rfl, Nat.le_refl _, fun _ _ _ => rfl⟩
theorem Kept.set {gs : List Nat} {w w' : World} (h : Kept gs w w') {a : Addr} (ha : a.block ∈ gs) (v : Value) : Kept gs w (w'.setCell a v) :=
  ⟨h.os, h.tape, h.output, by simpa [World.setCell] using h.size, fun k hk hn => by
    have hne : k ≠ a.block := fun e => hn (by rw [e]; exact ha)
    rw [Below.heap_setCell _ _ _ _ hne]; exact h.block k hk hn⟩
theorem Kept.below {gs : List Nat} {w w' : World} (h : Kept gs w w') {B : Nat} (hB : B ≤ w.heap.size) (hg : ∀ g ∈ gs, B ≤ g) : Below B w w' :=
  ⟨h.os, h.tape, h.output, h.size, fun k hk => h.block k (by omega) (fun hm => by have := hg k hm; omega)⟩
theorem Fresh.kept {w w' : World} {B g n cap : Nat} {A : List Int} {gs : List Nat} (h : Fresh w B g n cap A) (hk : Kept gs w w') (hg : g ∉ gs) : Fresh w' B g n cap A := h.of_block (hk.block g h.lt hg)
end Go.Proofs.Ytklgaokhillinaa
