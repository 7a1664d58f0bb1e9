/-
  NARROWER THAN 'FOR EVERY INPUT', by the rows' own cells (each row's printed sentence says how): HeadsAttend: laid · HeadsScores: laid · HeadsApart: laid · HeadsOne: laid · HeadsTurns: laid · HeadsWithin: laid.
  DERIVED. THE GIVEN ROWS OF THIS SEAT. 6 by the template 'for every input the law returns true; each argument reads behind the call as it read before'; 0 by the template 'total and deterministic' (their statements: YtjcacejkiaepnaaDoorTotals.lean).
  GIVEN WITH THE SEED: the statements are not yours to turn. If you find one false, say at which input.
  Laid BY PROGRAM, IN A SANDBOX (cutbox-rows.mjs): the forced cells as the released guide's own fill.sh prints them over the translation bc6d176fde8152c5… (all of the seat's roots in one cut). By AI agents, Wed Nov 11 2026. No macro, syntax, notation, axiom, sorry.
-/
import Derived.Test.YtjcacejkiaepnaaDoorChecked
import GoSem.Claim
import GoSem.ClaimJoined
import GoSem.ClaimMapViews
import Derived.JoinedTies
import Derived.KernelRfl
namespace Go.Proofs.YtjcacejkiaepnaaDoor
/- THE CELL 'sum', in the pinned program and in every row, IS THE sha256 OF THE DUMP (.gsa) THAT YtjcacejkiaepnaaDoorProg.lean LOADS. Nothing in Lean hashes anything: it is a label: what it is worth is what the hold of that sum in a sandbox is worth. -/
noncomputable def Tryd.pinned : Pinned := { name := "ytjcacejkiaepnaadoor", sum := "bc6d176fde8152c5bb7047367b5f943ef08c12a14fb2369ea3e14bf609f04bf4", checked := Tryd.checked }
namespace Rows
def none {H : Type} : Left H := { results := [], args := [] }

/- WHAT THE LISTED PACKAGE-LEVEL VARIABLES READ AS WHEN THE CALL BEGINS. Each datum BY PROGRAM (the guide's laid-datum.mjs) off the statement by which the dump's own 'gosem.cut.vars' lays the variable. In a bare row this is a premise. The card (YtjcacejkiaepnaaDoorCards.lean) ties it to the program's text. -/
def laid_tiller_curve_steps {H : Type} : DataW H := .agg [.lit (.int .i32 65536), .lit (.int .i32 64830), .lit (.int .i32 64132), .lit (.int .i32 63441), .lit (.int .i32 62757), .lit (.int .i32 62081), .lit (.int .i32 61413), .lit (.int .i32 60751), .lit (.int .i32 60097), .lit (.int .i32 59449), .lit (.int .i32 58809), .lit (.int .i32 58176), .lit (.int .i32 57549), .lit (.int .i32 56929), .lit (.int .i32 56316), .lit (.int .i32 55709), .lit (.int .i32 55109), .lit (.int .i32 54515), .lit (.int .i32 53928), .lit (.int .i32 53347), .lit (.int .i32 52773), .lit (.int .i32 52204), .lit (.int .i32 51642), .lit (.int .i32 51085), .lit (.int .i32 50535), .lit (.int .i32 49991), .lit (.int .i32 49452), .lit (.int .i32 48920), .lit (.int .i32 48393), .lit (.int .i32 47871), .lit (.int .i32 47356), .lit (.int .i32 46846), .lit (.int .i32 46341), .lit (.int .i32 45842), .lit (.int .i32 45348), .lit (.int .i32 44859), .lit (.int .i32 44376), .lit (.int .i32 43898), .lit (.int .i32 43425), .lit (.int .i32 42958), .lit (.int .i32 42495), .lit (.int .i32 42037), .lit (.int .i32 41584), .lit (.int .i32 41136), .lit (.int .i32 40693), .lit (.int .i32 40255), .lit (.int .i32 39821), .lit (.int .i32 39392), .lit (.int .i32 38968), .lit (.int .i32 38548), .lit (.int .i32 38133), .lit (.int .i32 37722), .lit (.int .i32 37316), .lit (.int .i32 36914), .lit (.int .i32 36516), .lit (.int .i32 36123), .lit (.int .i32 35734), .lit (.int .i32 35349), .lit (.int .i32 34968), .lit (.int .i32 34591), .lit (.int .i32 34219), .lit (.int .i32 33850), .lit (.int .i32 33486), .lit (.int .i32 33125), .lit (.int .i32 32768)]

/-- 'tillerlaw07.HeadsAttend': WHATEVER THE INPUT: true; the input reads as it did. -/
def headsAttendSpec : ChangeSpec := { name := "headsAttend", fn := fun _ => fun
  | [d1, d2, d3, d4] => { results := [.lit (.bool true)], args := [d1, d2, d3, d4] }
  | _ => none }
def headsAttendRow : OpenClaim := { program := "ytjcacejkiaepnaadoor", sum := "bc6d176fde8152c5bb7047367b5f943ef08c12a14fb2369ea3e14bf609f04bf4", func := "tiller/tillerlaw07.HeadsAttend", spec := "headsAttend", recurses := true, named := ["tiller/curve.steps"], apart := false, laid := [("tiller/curve.steps", laid_tiller_curve_steps)] }
def HeadsAttendSaid : Prop := headsAttendRow.holds Tryd.pinned (OpenSpec.ofChange headsAttendSpec)

/-- ITS FALSE NEIGHBOUR: 'it returns false'. Refute it at one input. -/
def headsAttendWrong : ChangeSpec := { name := "headsAttend", fn := fun _ => fun
  | [d1, d2, d3, d4] => { results := [.lit (.bool false)], args := [d1, d2, d3, d4] }
  | _ => none }
def HeadsAttendWrongFalsely : Prop := headsAttendRow.holds Tryd.pinned (OpenSpec.ofChange headsAttendWrong)

/-- 'tillerlaw07.HeadsScores': WHATEVER THE INPUT: true; the input reads as it did. -/
def headsScoresSpec : ChangeSpec := { name := "headsScores", fn := fun _ => fun
  | [d1, d2] => { results := [.lit (.bool true)], args := [d1, d2] }
  | _ => none }
def headsScoresRow : OpenClaim := { program := "ytjcacejkiaepnaadoor", sum := "bc6d176fde8152c5bb7047367b5f943ef08c12a14fb2369ea3e14bf609f04bf4", func := "tiller/tillerlaw07.HeadsScores", spec := "headsScores", recurses := true, named := ["tiller/curve.steps"], apart := false, laid := [("tiller/curve.steps", laid_tiller_curve_steps)] }
def HeadsScoresSaid : Prop := headsScoresRow.holds Tryd.pinned (OpenSpec.ofChange headsScoresSpec)

/-- ITS FALSE NEIGHBOUR: 'it returns false'. Refute it at one input. -/
def headsScoresWrong : ChangeSpec := { name := "headsScores", fn := fun _ => fun
  | [d1, d2] => { results := [.lit (.bool false)], args := [d1, d2] }
  | _ => none }
def HeadsScoresWrongFalsely : Prop := headsScoresRow.holds Tryd.pinned (OpenSpec.ofChange headsScoresWrong)

/-- 'tillerlaw07.HeadsApart': WHATEVER THE INPUT: true; the input reads as it did. -/
def headsApartSpec : ChangeSpec := { name := "headsApart", fn := fun _ => fun
  | [d1, d2, d3, d4] => { results := [.lit (.bool true)], args := [d1, d2, d3, d4] }
  | _ => none }
def headsApartRow : OpenClaim := { program := "ytjcacejkiaepnaadoor", sum := "bc6d176fde8152c5bb7047367b5f943ef08c12a14fb2369ea3e14bf609f04bf4", func := "tiller/tillerlaw07.HeadsApart", spec := "headsApart", named := ["tiller/curve.steps"], apart := false, laid := [("tiller/curve.steps", laid_tiller_curve_steps)] }
def HeadsApartSaid : Prop := headsApartRow.holds Tryd.pinned (OpenSpec.ofChange headsApartSpec)

/-- ITS FALSE NEIGHBOUR: 'it returns false'. Refute it at one input. -/
def headsApartWrong : ChangeSpec := { name := "headsApart", fn := fun _ => fun
  | [d1, d2, d3, d4] => { results := [.lit (.bool false)], args := [d1, d2, d3, d4] }
  | _ => none }
def HeadsApartWrongFalsely : Prop := headsApartRow.holds Tryd.pinned (OpenSpec.ofChange headsApartWrong)

/-- 'tillerlaw07.HeadsOne': WHATEVER THE INPUT: true; the input reads as it did. -/
def headsOneSpec : ChangeSpec := { name := "headsOne", fn := fun _ => fun
  | [d1, d2, d3, d4, d5] => { results := [.lit (.bool true)], args := [d1, d2, d3, d4, d5] }
  | _ => none }
def headsOneRow : OpenClaim := { program := "ytjcacejkiaepnaadoor", sum := "bc6d176fde8152c5bb7047367b5f943ef08c12a14fb2369ea3e14bf609f04bf4", func := "tiller/tillerlaw07.HeadsOne", spec := "headsOne", named := ["tiller/curve.steps"], apart := false, laid := [("tiller/curve.steps", laid_tiller_curve_steps)] }
def HeadsOneSaid : Prop := headsOneRow.holds Tryd.pinned (OpenSpec.ofChange headsOneSpec)

/-- ITS FALSE NEIGHBOUR: 'it returns false'. Refute it at one input. -/
def headsOneWrong : ChangeSpec := { name := "headsOne", fn := fun _ => fun
  | [d1, d2, d3, d4, d5] => { results := [.lit (.bool false)], args := [d1, d2, d3, d4, d5] }
  | _ => none }
def HeadsOneWrongFalsely : Prop := headsOneRow.holds Tryd.pinned (OpenSpec.ofChange headsOneWrong)

/-- 'tillerlaw07.HeadsTurns': WHATEVER THE INPUT: true; the input reads as it did. -/
def headsTurnsSpec : ChangeSpec := { name := "headsTurns", fn := fun _ => fun
  | [d1, d2, d3, d4, d5, d6] => { results := [.lit (.bool true)], args := [d1, d2, d3, d4, d5, d6] }
  | _ => none }
def headsTurnsRow : OpenClaim := { program := "ytjcacejkiaepnaadoor", sum := "bc6d176fde8152c5bb7047367b5f943ef08c12a14fb2369ea3e14bf609f04bf4", func := "tiller/tillerlaw07.HeadsTurns", spec := "headsTurns", named := ["tiller/curve.steps"], apart := false, laid := [("tiller/curve.steps", laid_tiller_curve_steps)] }
def HeadsTurnsSaid : Prop := headsTurnsRow.holds Tryd.pinned (OpenSpec.ofChange headsTurnsSpec)

/-- ITS FALSE NEIGHBOUR: 'it returns false'. Refute it at one input. -/
def headsTurnsWrong : ChangeSpec := { name := "headsTurns", fn := fun _ => fun
  | [d1, d2, d3, d4, d5, d6] => { results := [.lit (.bool false)], args := [d1, d2, d3, d4, d5, d6] }
  | _ => none }
def HeadsTurnsWrongFalsely : Prop := headsTurnsRow.holds Tryd.pinned (OpenSpec.ofChange headsTurnsWrong)

/-- 'tillerlaw07.HeadsWithin': WHATEVER THE INPUT: true; the input reads as it did. -/
def headsWithinSpec : ChangeSpec := { name := "headsWithin", fn := fun _ => fun
  | [d1, d2, d3, d4] => { results := [.lit (.bool true)], args := [d1, d2, d3, d4] }
  | _ => none }
def headsWithinRow : OpenClaim := { program := "ytjcacejkiaepnaadoor", sum := "bc6d176fde8152c5bb7047367b5f943ef08c12a14fb2369ea3e14bf609f04bf4", func := "tiller/tillerlaw07.HeadsWithin", spec := "headsWithin", named := ["tiller/curve.steps"], apart := false, laid := [("tiller/curve.steps", laid_tiller_curve_steps)] }
def HeadsWithinSaid : Prop := headsWithinRow.holds Tryd.pinned (OpenSpec.ofChange headsWithinSpec)

/-- ITS FALSE NEIGHBOUR: 'it returns false'. Refute it at one input. -/
def headsWithinWrong : ChangeSpec := { name := "headsWithin", fn := fun _ => fun
  | [d1, d2, d3, d4] => { results := [.lit (.bool false)], args := [d1, d2, d3, d4] }
  | _ => none }
def HeadsWithinWrongFalsely : Prop := headsWithinRow.holds Tryd.pinned (OpenSpec.ofChange headsWithinWrong)

/- THE SECOND FORM. 'bulk': how many values and letters a reading holds, each counted each time it is reached (what is shared counts as often as it is met; a slice's spare places count too). A statement '..UptoSaid' is the law's where the arguments, and the package variables that the reading takes, are together of bulk at most 1048576: NARROWER than '..Said'. Prove '..Said' where nothing that the law and all that it calls make is longer than what came in: it says more and counts as full. Else prove '..UptoSaid'. A law counts once. -/
mutual
def uptoBulk {H : Type} : DataW H → Nat
  | .lit (.string bytes) => bytes.length + 1
  | .lit _ => 1
  | .nil => 1
  | .ptr d => uptoBulk d + 1
  | .slice elems spare => uptoBulkAll elems + uptoBulkAll spare + 1
  | .agg parts => uptoBulkAll parts + 1
  | .iface _ d => uptoBulk d + 1
  | .map entries => uptoBulkEntries entries + 1
  | .held _ => 1
def uptoBulkAll {H : Type} : List (DataW H) → Nat
  | [] => 0
  | d :: r => uptoBulk d + uptoBulkAll r
def uptoBulkEntries {H : Type} : List (Lit × DataW H) → Nat
  | [] => 0
  | x :: r => uptoBulkEntry x + uptoBulkEntries r
def uptoBulkEntry {H : Type} : Lit × DataW H → Nat
  | (.string bytes, d) => bytes.length + uptoBulk d + 1
  | (_, d) => uptoBulk d + 1
 end
def uptoSmall : (H : Type) → List (DataW H) → Bool := fun _ ds => decide (uptoBulkAll ds ≤ 1048576)
def OpenSpec.upto (s : _root_.Go.ChangeSpec) : _root_.Go.OpenSpec := { _root_.Go.OpenSpec.ofChange s with cond := some uptoSmall }

/-- 'tillerlaw07.HeadsAttend', WHERE WHAT IT READS IS OF BULK AT MOST 1048576: true; the input reads as it did. -/
def headsAttendUptoRow : OpenClaim := { program := "ytjcacejkiaepnaadoor", sum := "bc6d176fde8152c5bb7047367b5f943ef08c12a14fb2369ea3e14bf609f04bf4", func := "tiller/tillerlaw07.HeadsAttend", spec := "headsAttend", recurses := true, named := ["tiller/curve.steps"], apart := false, laid := [("tiller/curve.steps", laid_tiller_curve_steps)], narrowed := true }
def HeadsAttendUptoSaid : Prop := headsAttendUptoRow.holds Tryd.pinned (OpenSpec.upto headsAttendSpec)

/-- 'tillerlaw07.HeadsScores', WHERE WHAT IT READS IS OF BULK AT MOST 1048576: true; the input reads as it did. -/
def headsScoresUptoRow : OpenClaim := { program := "ytjcacejkiaepnaadoor", sum := "bc6d176fde8152c5bb7047367b5f943ef08c12a14fb2369ea3e14bf609f04bf4", func := "tiller/tillerlaw07.HeadsScores", spec := "headsScores", recurses := true, named := ["tiller/curve.steps"], apart := false, laid := [("tiller/curve.steps", laid_tiller_curve_steps)], narrowed := true }
def HeadsScoresUptoSaid : Prop := headsScoresUptoRow.holds Tryd.pinned (OpenSpec.upto headsScoresSpec)

/-- 'tillerlaw07.HeadsApart', WHERE WHAT IT READS IS OF BULK AT MOST 1048576: true; the input reads as it did. -/
def headsApartUptoRow : OpenClaim := { program := "ytjcacejkiaepnaadoor", sum := "bc6d176fde8152c5bb7047367b5f943ef08c12a14fb2369ea3e14bf609f04bf4", func := "tiller/tillerlaw07.HeadsApart", spec := "headsApart", named := ["tiller/curve.steps"], apart := false, laid := [("tiller/curve.steps", laid_tiller_curve_steps)], narrowed := true }
def HeadsApartUptoSaid : Prop := headsApartUptoRow.holds Tryd.pinned (OpenSpec.upto headsApartSpec)

/-- 'tillerlaw07.HeadsOne', WHERE WHAT IT READS IS OF BULK AT MOST 1048576: true; the input reads as it did. -/
def headsOneUptoRow : OpenClaim := { program := "ytjcacejkiaepnaadoor", sum := "bc6d176fde8152c5bb7047367b5f943ef08c12a14fb2369ea3e14bf609f04bf4", func := "tiller/tillerlaw07.HeadsOne", spec := "headsOne", named := ["tiller/curve.steps"], apart := false, laid := [("tiller/curve.steps", laid_tiller_curve_steps)], narrowed := true }
def HeadsOneUptoSaid : Prop := headsOneUptoRow.holds Tryd.pinned (OpenSpec.upto headsOneSpec)

/-- 'tillerlaw07.HeadsTurns', WHERE WHAT IT READS IS OF BULK AT MOST 1048576: true; the input reads as it did. -/
def headsTurnsUptoRow : OpenClaim := { program := "ytjcacejkiaepnaadoor", sum := "bc6d176fde8152c5bb7047367b5f943ef08c12a14fb2369ea3e14bf609f04bf4", func := "tiller/tillerlaw07.HeadsTurns", spec := "headsTurns", named := ["tiller/curve.steps"], apart := false, laid := [("tiller/curve.steps", laid_tiller_curve_steps)], narrowed := true }
def HeadsTurnsUptoSaid : Prop := headsTurnsUptoRow.holds Tryd.pinned (OpenSpec.upto headsTurnsSpec)

/-- 'tillerlaw07.HeadsWithin', WHERE WHAT IT READS IS OF BULK AT MOST 1048576: true; the input reads as it did. -/
def headsWithinUptoRow : OpenClaim := { program := "ytjcacejkiaepnaadoor", sum := "bc6d176fde8152c5bb7047367b5f943ef08c12a14fb2369ea3e14bf609f04bf4", func := "tiller/tillerlaw07.HeadsWithin", spec := "headsWithin", named := ["tiller/curve.steps"], apart := false, laid := [("tiller/curve.steps", laid_tiller_curve_steps)], narrowed := true }
def HeadsWithinUptoSaid : Prop := headsWithinUptoRow.holds Tryd.pinned (OpenSpec.upto headsWithinSpec)

end Rows
end Go.Proofs.YtjcacejkiaepnaaDoor
