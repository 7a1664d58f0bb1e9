/- More of what the laws of layer 3 call: dot products of any two rows; small numbers; the document's greatest place; rows that are overwritten. -/
import Derived.Test.YthbkibcdcnpaoabVecL
import Derived.Test.YthbkibcdcnpaoabVNum
namespace Go.Proofs.Ythbkibcdcnpaoab
open Go.ChangeShapes Go.WideShapes Go.ChangeAt Go.RowKit
theorem dot_all (ao bo : Option Addr) (n m ca cb : Nat) (A B : List Int) (w : World) (hA : RowAt w ao n A) (hB : RowAt w bo m B) :
   Calls Try.prog 20 #[.slice ao n ca, .slice bo m cb] w fun e w' => e = .returned (.tuple #[.int .i32 (dotV A B n m), .int .i64 (fitN n m)]) ∧ ∃ m, w' = w.drewN m := by
  by_cases hf : fitN n m = 0
  · obtain ⟨rfl, h4⟩ := fit_zero hf
    have e : dotV A B n n = dotN A B n := by unfold dotV; rw [if_pos hf]
    rw [e, hf]
    exact dot_any ao bo n ca cb A B w hA hB h4
  · have e : dotV A B n m = 0 := by unfold dotV; rw [if_neg hf]
    rw [e]
    exact (dot_bad ao bo n m ca cb w hA.max hB.max hf).mono fun e w' ⟨h1, h2⟩ => ⟨h1, 0, h2⟩
/-- Of what was there, only blocks among gs may have turned. -/
structure Kept (gs : List Nat) (w w' : World) : Prop where
  os : w'.os = w.os
  tape : w'.tape = w.tape
  output : w'.output = w.output
  size : w.heap.size ≤ w'.heap.size
  block : ∀ k, k < w.heap.size → k ∉ gs → w'.heap[k]? = w.heap[k]?
theorem Kept.refl (gs : List Nat) (w : World) : Kept gs w w := ⟨rfl, rfl, rfl, Nat.le_refl _, fun _ _ _ => rfl⟩
theorem Kept.set {gs : List Nat} {w w' : World} (h : Kept gs w w') {a : Addr} (ha : a.block ∈ gs) (v : Value) : Kept gs w (w'.setCell a v) :=
  ⟨h.os, h.tape, h.output, by simpa [World.setCell] using h.size, fun k hk hn => by
    have hne : k ≠ a.block := fun e => hn (by rw [e]; exact ha)
    rw [Below.heap_setCell _ _ _ _ hne]; exact h.block k hk hn⟩
theorem Kept.below {gs : List Nat} {w w' : World} (h : Kept gs w w') {B : Nat} (hB : B ≤ w.heap.size) (hg : ∀ g ∈ gs, B ≤ g) : Below B w w' :=
  ⟨h.os, h.tape, h.output, h.size, fun k hk => h.block k (by omega) (fun hm => by have := hg k hm; omega)⟩
theorem Fresh.kept {w w' : World} {B g n cap : Nat} {A : List Int} {gs : List Nat} (h : Fresh w B g n cap A) (hk : Kept gs w w') (hg : g ∉ gs) : Fresh w' B g n cap A := h.of_block (hk.block g h.lt hg)
end Go.Proofs.Ythbkibcdcnpaoab
