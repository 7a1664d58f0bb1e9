/-
  No cell of these rows narrows 'for every input' (looked for: loops, veiled, ifaces, maps, wideKeys, modest, calm, conditions, laid).
  DERIVED. THE GIVEN ROWS OF THIS SEAT. 2 by the template 'for every input the law returns true; each argument reads behind the call as it read before'; 0 by the template 'total and deterministic' (their statements: YtifbnnffejamaaaTotals.lean).
  GIVEN WITH THE SEED: the statements are not yours to turn. If you find one false, say at which input.
  Laid BY PROGRAM, IN A SANDBOX (cutbox-rows.mjs): the forced cells as the released guide's own fill.sh prints them over the translation ddf57b6d21f9f572… (all of the seat's roots in one cut). By AI agents, Wed Nov 11 2026. No macro, syntax, notation, axiom, sorry.
-/
import Derived.Test.YtifbnnffejamaaaChecked
import GoSem.Claim
import GoSem.ClaimJoined
import GoSem.ClaimMapViews
import Derived.JoinedTies
import Derived.KernelRfl
namespace Go.Proofs.Ytifbnnffejamaaa
/- THE CELL 'sum', in the pinned program and in every row, IS THE sha256 OF THE DUMP (.gsa) THAT YtifbnnffejamaaaProg.lean LOADS. Nothing in Lean hashes anything: it is a label: what it is worth is what the hold of that sum in a sandbox is worth. -/
noncomputable def Try.pinned : Pinned := { name := "ytifbnnffejamaaa", sum := "ddf57b6d21f9f5726ddb85f5f2c0169bfe4da83d1aabd50c8c0a4d9cbd131760", checked := Try.checked }
namespace Rows
def none {H : Type} : Left H := { results := [], args := [] }

/-- 'tillerlaw19.HolderPlays': WHATEVER THE INPUT: true; the input reads as it did. -/
def holderPlaysSpec : ChangeSpec := { name := "holderPlays", fn := fun _ => fun
  | [d1, d2, d3] => { results := [.lit (.bool true)], args := [d1, d2, d3] }
  | _ => none }
def holderPlaysRow : OpenClaim := { program := "ytifbnnffejamaaa", sum := "ddf57b6d21f9f5726ddb85f5f2c0169bfe4da83d1aabd50c8c0a4d9cbd131760", func := "tiller/tillerlaw19.HolderPlays", spec := "holderPlays", unfollowed := true, recurses := true, apart := false }
def HolderPlaysSaid : Prop := holderPlaysRow.holds Try.pinned (OpenSpec.ofChange holderPlaysSpec)

/-- ITS FALSE NEIGHBOUR: 'it returns false'. Refute it at one input. -/
def holderPlaysWrong : ChangeSpec := { name := "holderPlays", fn := fun _ => fun
  | [d1, d2, d3] => { results := [.lit (.bool false)], args := [d1, d2, d3] }
  | _ => none }
def HolderPlaysWrongFalsely : Prop := holderPlaysRow.holds Try.pinned (OpenSpec.ofChange holderPlaysWrong)

/-- 'tillerlaw19.HolderMargin': WHATEVER THE INPUT: true; the input reads as it did. -/
def holderMarginSpec : ChangeSpec := { name := "holderMargin", fn := fun _ => fun
  | [d1, d2, d3] => { results := [.lit (.bool true)], args := [d1, d2, d3] }
  | _ => none }
def holderMarginRow : OpenClaim := { program := "ytifbnnffejamaaa", sum := "ddf57b6d21f9f5726ddb85f5f2c0169bfe4da83d1aabd50c8c0a4d9cbd131760", func := "tiller/tillerlaw19.HolderMargin", spec := "holderMargin", unfollowed := true, recurses := true, apart := false }
def HolderMarginSaid : Prop := holderMarginRow.holds Try.pinned (OpenSpec.ofChange holderMarginSpec)

/-- ITS FALSE NEIGHBOUR: 'it returns false'. Refute it at one input. -/
def holderMarginWrong : ChangeSpec := { name := "holderMargin", fn := fun _ => fun
  | [d1, d2, d3] => { results := [.lit (.bool false)], args := [d1, d2, d3] }
  | _ => none }
def HolderMarginWrongFalsely : Prop := holderMarginRow.holds Try.pinned (OpenSpec.ofChange holderMarginWrong)

/- THE SECOND FORM. 'bulk': how many values and letters a reading holds, each counted each time it is reached (what is shared counts as often as it is met; a slice's spare places count too). A statement '..UptoSaid' is the law's where the arguments, and the package variables that the reading takes, are together of bulk at most 1048576: NARROWER than '..Said'. Prove '..Said' where nothing that the law and all that it calls make is longer than what came in: it says more and counts as full. Else prove '..UptoSaid'. A law counts once. -/
mutual
def uptoBulk {H : Type} : DataW H → Nat
  | .lit (.string bytes) => bytes.length + 1
  | .lit _ => 1
  | .nil => 1
  | .ptr d => uptoBulk d + 1
  | .slice elems spare => uptoBulkAll elems + uptoBulkAll spare + 1
  | .agg parts => uptoBulkAll parts + 1
  | .iface _ d => uptoBulk d + 1
  | .map entries => uptoBulkEntries entries + 1
  | .held _ => 1
def uptoBulkAll {H : Type} : List (DataW H) → Nat
  | [] => 0
  | d :: r => uptoBulk d + uptoBulkAll r
def uptoBulkEntries {H : Type} : List (Lit × DataW H) → Nat
  | [] => 0
  | x :: r => uptoBulkEntry x + uptoBulkEntries r
def uptoBulkEntry {H : Type} : Lit × DataW H → Nat
  | (.string bytes, d) => bytes.length + uptoBulk d + 1
  | (_, d) => uptoBulk d + 1
 end
def uptoSmall : (H : Type) → List (DataW H) → Bool := fun _ ds => decide (uptoBulkAll ds ≤ 1048576)
def OpenSpec.upto (s : _root_.Go.ChangeSpec) : _root_.Go.OpenSpec := { _root_.Go.OpenSpec.ofChange s with cond := some uptoSmall }

/-- 'tillerlaw19.HolderPlays', WHERE WHAT IT READS IS OF BULK AT MOST 1048576: true; the input reads as it did. -/
def holderPlaysUptoRow : OpenClaim := { program := "ytifbnnffejamaaa", sum := "ddf57b6d21f9f5726ddb85f5f2c0169bfe4da83d1aabd50c8c0a4d9cbd131760", func := "tiller/tillerlaw19.HolderPlays", spec := "holderPlays", unfollowed := true, recurses := true, apart := false, narrowed := true }
def HolderPlaysUptoSaid : Prop := holderPlaysUptoRow.holds Try.pinned (OpenSpec.upto holderPlaysSpec)

/-- 'tillerlaw19.HolderMargin', WHERE WHAT IT READS IS OF BULK AT MOST 1048576: true; the input reads as it did. -/
def holderMarginUptoRow : OpenClaim := { program := "ytifbnnffejamaaa", sum := "ddf57b6d21f9f5726ddb85f5f2c0169bfe4da83d1aabd50c8c0a4d9cbd131760", func := "tiller/tillerlaw19.HolderMargin", spec := "holderMargin", unfollowed := true, recurses := true, apart := false, narrowed := true }
def HolderMarginUptoSaid : Prop := holderMarginUptoRow.holds Try.pinned (OpenSpec.upto holderMarginSpec)

end Rows
end Go.Proofs.Ytifbnnffejamaaa
