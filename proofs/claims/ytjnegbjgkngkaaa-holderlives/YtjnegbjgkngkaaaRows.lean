/-
  No cell of these rows narrows 'for every input' (looked for: loops, veiled, ifaces, maps, wideKeys, modest, calm, conditions, laid).
  DERIVED. THE GIVEN ROWS OF THIS SEAT. 4 by the template 'for every input the law returns true; each argument reads behind the call as it read before'; 0 by the template 'total and deterministic' (their statements: YtjnegbjgkngkaaaTotals.lean).
  GIVEN WITH THE SEED: the statements are not yours to turn. If you find one false, say at which input.
  Laid BY PROGRAM, IN A SANDBOX (cutbox-rows.mjs): the forced cells as the released guide's own fill.sh prints them over the translation 1fe72c5e06a7d357… (all of the seat's roots in one cut). By AI agents, Wed Nov 11 2026. No macro, syntax, notation, axiom, sorry.
-/
import Derived.Test.YtjnegbjgkngkaaaChecked
import GoSem.Claim
import GoSem.ClaimJoined
import GoSem.ClaimMapViews
import Derived.JoinedTies
import Derived.KernelRfl
namespace Go.Proofs.Ytjnegbjgkngkaaa
/- THE CELL 'sum', in the pinned program and in every row, IS THE sha256 OF THE DUMP (.gsa) THAT YtjnegbjgkngkaaaProg.lean LOADS. Nothing in Lean hashes anything: it is a label: what it is worth is what the hold of that sum in a sandbox is worth. -/
noncomputable def Try.pinned : Pinned := { name := "ytjnegbjgkngkaaa", sum := "1fe72c5e06a7d357e6e5ea548d221c969046cb37e08c4893e96bd633ea20bb21", checked := Try.checked }
namespace Rows
def none {H : Type} : Left H := { results := [], args := [] }

/-- 'tillerlaw19.HolderPlays': WHATEVER THE INPUT: true; the input reads as it did. -/
def holderPlaysSpec : ChangeSpec := { name := "holderPlays", fn := fun _ => fun
  | [d1, d2, d3] => { results := [.lit (.bool true)], args := [d1, d2, d3] }
  | _ => none }
def holderPlaysRow : OpenClaim := { program := "ytjnegbjgkngkaaa", sum := "1fe72c5e06a7d357e6e5ea548d221c969046cb37e08c4893e96bd633ea20bb21", func := "tiller/tillerlaw19.HolderPlays", spec := "holderPlays", unfollowed := true, recurses := true, apart := false }
def HolderPlaysSaid : Prop := holderPlaysRow.holds Try.pinned (OpenSpec.ofChange holderPlaysSpec)

/-- ITS FALSE NEIGHBOUR: 'it returns false'. Refute it at one input. -/
def holderPlaysWrong : ChangeSpec := { name := "holderPlays", fn := fun _ => fun
  | [d1, d2, d3] => { results := [.lit (.bool false)], args := [d1, d2, d3] }
  | _ => none }
def HolderPlaysWrongFalsely : Prop := holderPlaysRow.holds Try.pinned (OpenSpec.ofChange holderPlaysWrong)

/-- 'tillerlaw19.HolderMargin': WHATEVER THE INPUT: true; the input reads as it did. -/
def holderMarginSpec : ChangeSpec := { name := "holderMargin", fn := fun _ => fun
  | [d1, d2, d3] => { results := [.lit (.bool true)], args := [d1, d2, d3] }
  | _ => none }
def holderMarginRow : OpenClaim := { program := "ytjnegbjgkngkaaa", sum := "1fe72c5e06a7d357e6e5ea548d221c969046cb37e08c4893e96bd633ea20bb21", func := "tiller/tillerlaw19.HolderMargin", spec := "holderMargin", unfollowed := true, recurses := true, apart := false }
def HolderMarginSaid : Prop := holderMarginRow.holds Try.pinned (OpenSpec.ofChange holderMarginSpec)

/-- ITS FALSE NEIGHBOUR: 'it returns false'. Refute it at one input. -/
def holderMarginWrong : ChangeSpec := { name := "holderMargin", fn := fun _ => fun
  | [d1, d2, d3] => { results := [.lit (.bool false)], args := [d1, d2, d3] }
  | _ => none }
def HolderMarginWrongFalsely : Prop := holderMarginRow.holds Try.pinned (OpenSpec.ofChange holderMarginWrong)

/-- 'tillerlaw19.HolderLives': WHATEVER THE INPUT: true; the input reads as it did. -/
def holderLivesSpec : ChangeSpec := { name := "holderLives", fn := fun _ => fun
  | [d1, d2] => { results := [.lit (.bool true)], args := [d1, d2] }
  | _ => none }
def holderLivesRow : OpenClaim := { program := "ytjnegbjgkngkaaa", sum := "1fe72c5e06a7d357e6e5ea548d221c969046cb37e08c4893e96bd633ea20bb21", func := "tiller/tillerlaw19.HolderLives", spec := "holderLives", unfollowed := true, recurses := true, apart := false }
def HolderLivesSaid : Prop := holderLivesRow.holds Try.pinned (OpenSpec.ofChange holderLivesSpec)

/-- ITS FALSE NEIGHBOUR: 'it returns false'. Refute it at one input. -/
def holderLivesWrong : ChangeSpec := { name := "holderLives", fn := fun _ => fun
  | [d1, d2] => { results := [.lit (.bool false)], args := [d1, d2] }
  | _ => none }
def HolderLivesWrongFalsely : Prop := holderLivesRow.holds Try.pinned (OpenSpec.ofChange holderLivesWrong)

/-- 'tillerlaw19.HolderEarly': WHATEVER THE INPUT: true; the input reads as it did. -/
def holderEarlySpec : ChangeSpec := { name := "holderEarly", fn := fun _ => fun
  | [d1, d2, d3, d4] => { results := [.lit (.bool true)], args := [d1, d2, d3, d4] }
  | _ => none }
def holderEarlyRow : OpenClaim := { program := "ytjnegbjgkngkaaa", sum := "1fe72c5e06a7d357e6e5ea548d221c969046cb37e08c4893e96bd633ea20bb21", func := "tiller/tillerlaw19.HolderEarly", spec := "holderEarly", unfollowed := true, recurses := true, apart := false }
def HolderEarlySaid : Prop := holderEarlyRow.holds Try.pinned (OpenSpec.ofChange holderEarlySpec)

/-- ITS FALSE NEIGHBOUR: 'it returns false'. Refute it at one input. -/
def holderEarlyWrong : ChangeSpec := { name := "holderEarly", fn := fun _ => fun
  | [d1, d2, d3, d4] => { results := [.lit (.bool false)], args := [d1, d2, d3, d4] }
  | _ => none }
def HolderEarlyWrongFalsely : Prop := holderEarlyRow.holds Try.pinned (OpenSpec.ofChange holderEarlyWrong)

/- THE SECOND FORM. 'bulk': how many values and letters a reading holds, each counted each time it is reached (what is shared counts as often as it is met; a slice's spare places count too). A statement '..UptoSaid' is the law's where the arguments, and the package variables that the reading takes, are together of bulk at most 1048576: NARROWER than '..Said'. Prove '..Said' where nothing that the law and all that it calls make is longer than what came in: it says more and counts as full. Else prove '..UptoSaid'. A law counts once. -/
mutual
def uptoBulk {H : Type} : DataW H → Nat
  | .lit (.string bytes) => bytes.length + 1
  | .lit _ => 1
  | .nil => 1
  | .ptr d => uptoBulk d + 1
  | .slice elems spare => uptoBulkAll elems + uptoBulkAll spare + 1
  | .agg parts => uptoBulkAll parts + 1
  | .iface _ d => uptoBulk d + 1
  | .map entries => uptoBulkEntries entries + 1
  | .held _ => 1
def uptoBulkAll {H : Type} : List (DataW H) → Nat
  | [] => 0
  | d :: r => uptoBulk d + uptoBulkAll r
def uptoBulkEntries {H : Type} : List (Lit × DataW H) → Nat
  | [] => 0
  | x :: r => uptoBulkEntry x + uptoBulkEntries r
def uptoBulkEntry {H : Type} : Lit × DataW H → Nat
  | (.string bytes, d) => bytes.length + uptoBulk d + 1
  | (_, d) => uptoBulk d + 1
 end
def uptoSmall : (H : Type) → List (DataW H) → Bool := fun _ ds => decide (uptoBulkAll ds ≤ 1048576)
def OpenSpec.upto (s : _root_.Go.ChangeSpec) : _root_.Go.OpenSpec := { _root_.Go.OpenSpec.ofChange s with cond := some uptoSmall }

/-- 'tillerlaw19.HolderPlays', WHERE WHAT IT READS IS OF BULK AT MOST 1048576: true; the input reads as it did. -/
def holderPlaysUptoRow : OpenClaim := { program := "ytjnegbjgkngkaaa", sum := "1fe72c5e06a7d357e6e5ea548d221c969046cb37e08c4893e96bd633ea20bb21", func := "tiller/tillerlaw19.HolderPlays", spec := "holderPlays", unfollowed := true, recurses := true, apart := false, narrowed := true }
def HolderPlaysUptoSaid : Prop := holderPlaysUptoRow.holds Try.pinned (OpenSpec.upto holderPlaysSpec)

/-- 'tillerlaw19.HolderMargin', WHERE WHAT IT READS IS OF BULK AT MOST 1048576: true; the input reads as it did. -/
def holderMarginUptoRow : OpenClaim := { program := "ytjnegbjgkngkaaa", sum := "1fe72c5e06a7d357e6e5ea548d221c969046cb37e08c4893e96bd633ea20bb21", func := "tiller/tillerlaw19.HolderMargin", spec := "holderMargin", unfollowed := true, recurses := true, apart := false, narrowed := true }
def HolderMarginUptoSaid : Prop := holderMarginUptoRow.holds Try.pinned (OpenSpec.upto holderMarginSpec)

/-- 'tillerlaw19.HolderLives', WHERE WHAT IT READS IS OF BULK AT MOST 1048576: true; the input reads as it did. -/
def holderLivesUptoRow : OpenClaim := { program := "ytjnegbjgkngkaaa", sum := "1fe72c5e06a7d357e6e5ea548d221c969046cb37e08c4893e96bd633ea20bb21", func := "tiller/tillerlaw19.HolderLives", spec := "holderLives", unfollowed := true, recurses := true, apart := false, narrowed := true }
def HolderLivesUptoSaid : Prop := holderLivesUptoRow.holds Try.pinned (OpenSpec.upto holderLivesSpec)

/-- 'tillerlaw19.HolderEarly', WHERE WHAT IT READS IS OF BULK AT MOST 1048576: true; the input reads as it did. -/
def holderEarlyUptoRow : OpenClaim := { program := "ytjnegbjgkngkaaa", sum := "1fe72c5e06a7d357e6e5ea548d221c969046cb37e08c4893e96bd633ea20bb21", func := "tiller/tillerlaw19.HolderEarly", spec := "holderEarly", unfollowed := true, recurses := true, apart := false, narrowed := true }
def HolderEarlyUptoSaid : Prop := holderEarlyUptoRow.holds Try.pinned (OpenSpec.upto holderEarlySpec)

end Rows
end Go.Proofs.Ytjnegbjgkngkaaa
