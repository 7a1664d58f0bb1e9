/-
  NARROWER THAN 'FOR EVERY INPUT', by the rows' own cells (each row's printed sentence says how): TillerPaged: laid.
  DERIVED. THE GIVEN ROWS OF THIS SEAT. 1 by the template 'for every input the law returns true; each argument reads behind the call as it read before'; 0 by the template 'total and deterministic' (their statements: YtcanjlofnpnhkaaGreatDoorTotals.lean).
  GIVEN WITH THE SEED: the statements are not yours to turn. If you find one false, say at which input.
  Laid BY PROGRAM, IN A SANDBOX (cutbox-rows.mjs): the forced cells as the released guide's own fill.sh prints them over the translation f2ca7d80a44992a1… (all of the seat's roots in one cut). By AI agents, Wed Nov 11 2026. No macro, syntax, notation, axiom, sorry.
-/
import Derived.Test.YtcanjlofnpnhkaaGreatDoorChecked
import GoSem.Claim
import GoSem.ClaimJoined
import GoSem.ClaimMapViews
import Derived.JoinedTies
import Derived.KernelRfl
namespace Go.Proofs.YtcanjlofnpnhkaaGreatDoor
/- THE CELL 'sum', in the pinned program and in every row, IS THE sha256 OF THE DUMP (.gsa) THAT YtcanjlofnpnhkaaGreatDoorProg.lean LOADS. Nothing in Lean hashes anything: it is a label: what it is worth is what the hold of that sum in a sandbox is worth. -/
noncomputable def Tryz.pinned : Pinned := { name := "ytcanjlofnpnhkaagreatdoor", sum := "f2ca7d80a44992a17ead452c7a2b7c46a3a3c3eeee6b353f6dfb8a6f7a049b80", checked := Tryz.checked }
namespace Rows
def none {H : Type} : Left H := { results := [], args := [] }

/- WHAT THE LISTED PACKAGE-LEVEL VARIABLES READ AS WHEN THE CALL BEGINS. Each datum BY PROGRAM (the guide's laid-datum.mjs) off the statement by which the dump's own 'gosem.cut.vars' lays the variable. In a bare row this is a premise. The card (YtcanjlofnpnhkaaGreatDoorCards.lean) ties it to the program's text. -/
def laid_tiller_curve_steps {H : Type} : DataW H := .agg [.lit (.int .i32 65536), .lit (.int .i32 64830), .lit (.int .i32 64132), .lit (.int .i32 63441), .lit (.int .i32 62757), .lit (.int .i32 62081), .lit (.int .i32 61413), .lit (.int .i32 60751), .lit (.int .i32 60097), .lit (.int .i32 59449), .lit (.int .i32 58809), .lit (.int .i32 58176), .lit (.int .i32 57549), .lit (.int .i32 56929), .lit (.int .i32 56316), .lit (.int .i32 55709), .lit (.int .i32 55109), .lit (.int .i32 54515), .lit (.int .i32 53928), .lit (.int .i32 53347), .lit (.int .i32 52773), .lit (.int .i32 52204), .lit (.int .i32 51642), .lit (.int .i32 51085), .lit (.int .i32 50535), .lit (.int .i32 49991), .lit (.int .i32 49452), .lit (.int .i32 48920), .lit (.int .i32 48393), .lit (.int .i32 47871), .lit (.int .i32 47356), .lit (.int .i32 46846), .lit (.int .i32 46341), .lit (.int .i32 45842), .lit (.int .i32 45348), .lit (.int .i32 44859), .lit (.int .i32 44376), .lit (.int .i32 43898), .lit (.int .i32 43425), .lit (.int .i32 42958), .lit (.int .i32 42495), .lit (.int .i32 42037), .lit (.int .i32 41584), .lit (.int .i32 41136), .lit (.int .i32 40693), .lit (.int .i32 40255), .lit (.int .i32 39821), .lit (.int .i32 39392), .lit (.int .i32 38968), .lit (.int .i32 38548), .lit (.int .i32 38133), .lit (.int .i32 37722), .lit (.int .i32 37316), .lit (.int .i32 36914), .lit (.int .i32 36516), .lit (.int .i32 36123), .lit (.int .i32 35734), .lit (.int .i32 35349), .lit (.int .i32 34968), .lit (.int .i32 34591), .lit (.int .i32 34219), .lit (.int .i32 33850), .lit (.int .i32 33486), .lit (.int .i32 33125), .lit (.int .i32 32768)]

/-- 'tillertop.TillerPaged': WHATEVER THE INPUT: true; the input reads as it did. -/
def tillerPagedSpec : ChangeSpec := { name := "tillerPaged", fn := fun _ => fun
  | [d1, d2, d3, d4] => { results := [.lit (.bool true)], args := [d1, d2, d3, d4] }
  | _ => none }
def tillerPagedRow : OpenClaim := { program := "ytcanjlofnpnhkaagreatdoor", sum := "f2ca7d80a44992a17ead452c7a2b7c46a3a3c3eeee6b353f6dfb8a6f7a049b80", func := "tiller/tillertop.TillerPaged", spec := "tillerPaged", unfollowed := true, recurses := true, named := ["tiller/curve.steps"], apart := false, laid := [("tiller/curve.steps", laid_tiller_curve_steps)] }
def TillerPagedSaid : Prop := tillerPagedRow.holds Tryz.pinned (OpenSpec.ofChange tillerPagedSpec)

/-- ITS FALSE NEIGHBOUR: 'it returns false'. Refute it at one input. -/
def tillerPagedWrong : ChangeSpec := { name := "tillerPaged", fn := fun _ => fun
  | [d1, d2, d3, d4] => { results := [.lit (.bool false)], args := [d1, d2, d3, d4] }
  | _ => none }
def TillerPagedWrongFalsely : Prop := tillerPagedRow.holds Tryz.pinned (OpenSpec.ofChange tillerPagedWrong)

/- THE SECOND FORM. 'bulk': how many values and letters a reading holds, each counted each time it is reached (what is shared counts as often as it is met; a slice's spare places count too). A statement '..UptoSaid' is the law's where the arguments, and the package variables that the reading takes, are together of bulk at most 1048576: NARROWER than '..Said'. Prove '..Said' where nothing that the law and all that it calls make is longer than what came in: it says more and counts as full. Else prove '..UptoSaid'. A law counts once. -/
mutual
def uptoBulk {H : Type} : DataW H → Nat
  | .lit (.string bytes) => bytes.length + 1
  | .lit _ => 1
  | .nil => 1
  | .ptr d => uptoBulk d + 1
  | .slice elems spare => uptoBulkAll elems + uptoBulkAll spare + 1
  | .agg parts => uptoBulkAll parts + 1
  | .iface _ d => uptoBulk d + 1
  | .map entries => uptoBulkEntries entries + 1
  | .held _ => 1
def uptoBulkAll {H : Type} : List (DataW H) → Nat
  | [] => 0
  | d :: r => uptoBulk d + uptoBulkAll r
def uptoBulkEntries {H : Type} : List (Lit × DataW H) → Nat
  | [] => 0
  | x :: r => uptoBulkEntry x + uptoBulkEntries r
def uptoBulkEntry {H : Type} : Lit × DataW H → Nat
  | (.string bytes, d) => bytes.length + uptoBulk d + 1
  | (_, d) => uptoBulk d + 1
 end
def uptoSmall : (H : Type) → List (DataW H) → Bool := fun _ ds => decide (uptoBulkAll ds ≤ 1048576)
def OpenSpec.upto (s : _root_.Go.ChangeSpec) : _root_.Go.OpenSpec := { _root_.Go.OpenSpec.ofChange s with cond := some uptoSmall }

/-- 'tillertop.TillerPaged', WHERE WHAT IT READS IS OF BULK AT MOST 1048576: true; the input reads as it did. -/
def tillerPagedUptoRow : OpenClaim := { program := "ytcanjlofnpnhkaagreatdoor", sum := "f2ca7d80a44992a17ead452c7a2b7c46a3a3c3eeee6b353f6dfb8a6f7a049b80", func := "tiller/tillertop.TillerPaged", spec := "tillerPaged", unfollowed := true, recurses := true, named := ["tiller/curve.steps"], apart := false, laid := [("tiller/curve.steps", laid_tiller_curve_steps)], narrowed := true }
def TillerPagedUptoSaid : Prop := tillerPagedUptoRow.holds Tryz.pinned (OpenSpec.upto tillerPagedSpec)

end Rows
end Go.Proofs.YtcanjlofnpnhkaaGreatDoor
