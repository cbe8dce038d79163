/-
  NARROWER THAN 'FOR EVERY INPUT', by the rows' own cells (each row's printed sentence says how): GraphSays: laid · GraphJoins: laid · GraphEnds: laid · GraphFeeds: laid · SequenceSays: laid · SequenceSafe: laid · SequenceTurns: laid.
  DERIVED. THE GIVEN ROWS OF THIS SEAT. 7 by the template 'for every input the law returns true; each argument reads behind the call as it read before'; 0 by the template 'total and deterministic' (their statements: YtmnnlimiacdeoaaDoorTotals.lean).
  GIVEN WITH THE SEED: the statements are not yours to turn. If you find one false, say at which input.
  Laid BY PROGRAM, IN A SANDBOX (cutbox-rows.mjs): the forced cells as the released guide's own fill.sh prints them over the translation 7f3ca7c8048fdb6b… (all of the seat's roots in one cut). By AI agents, Wed Nov 11 2026. No macro, syntax, notation, axiom, sorry.
-/
import Derived.Test.YtmnnlimiacdeoaaDoorChecked
import GoSem.Claim
import GoSem.ClaimJoined
import GoSem.ClaimMapViews
import Derived.JoinedTies
import Derived.KernelRfl
namespace Go.Proofs.YtmnnlimiacdeoaaDoor
/- THE CELL 'sum', in the pinned program and in every row, IS THE sha256 OF THE DUMP (.gsa) THAT YtmnnlimiacdeoaaDoorProg.lean LOADS. Nothing in Lean hashes anything: it is a label: what it is worth is what the hold of that sum in a sandbox is worth. -/
noncomputable def Tryd.pinned : Pinned := { name := "ytmnnlimiacdeoaadoor", sum := "7f3ca7c8048fdb6b0dc270b0f2258b6f806d274b0ad3608ce8a96ea2201cc4b4", checked := Tryd.checked }
namespace Rows
def none {H : Type} : Left H := { results := [], args := [] }

/- WHAT THE LISTED PACKAGE-LEVEL VARIABLES READ AS WHEN THE CALL BEGINS. Each datum BY PROGRAM (the guide's laid-datum.mjs) off the statement by which the dump's own 'gosem.cut.vars' lays the variable. In a bare row this is a premise. The card (YtmnnlimiacdeoaaDoorCards.lean) ties it to the program's text. -/
def laid_dynamo_graph_ends {H : Type} : DataW H := .agg [.agg [.lit (.int .i64 0), .lit (.int .i64 4)], .agg [.lit (.int .i64 1), .lit (.int .i64 4)], .agg [.lit (.int .i64 2), .lit (.int .i64 5)], .agg [.lit (.int .i64 3), .lit (.int .i64 5)], .agg [.lit (.int .i64 4), .lit (.int .i64 5)], .agg [.lit (.int .i64 4), .lit (.int .i64 6)], .agg [.lit (.int .i64 5), .lit (.int .i64 6)]]

/-- 'dynamolaw21.GraphSays': WHATEVER THE INPUT: true; the input reads as it did. -/
def graphSaysSpec : ChangeSpec := { name := "graphSays", fn := fun _ => fun
  | [d1, d2, d3] => { results := [.lit (.bool true)], args := [d1, d2, d3] }
  | _ => none }
def graphSaysRow : OpenClaim := { program := "ytmnnlimiacdeoaadoor", sum := "7f3ca7c8048fdb6b0dc270b0f2258b6f806d274b0ad3608ce8a96ea2201cc4b4", func := "dynamo/dynamolaw21.GraphSays", spec := "graphSays", named := ["dynamo/graph.ends"], apart := false, laid := [("dynamo/graph.ends", laid_dynamo_graph_ends)] }
def GraphSaysSaid : Prop := graphSaysRow.holds Tryd.pinned (OpenSpec.ofChange graphSaysSpec)

/-- ITS FALSE NEIGHBOUR: 'it returns false'. Refute it at one input. -/
def graphSaysWrong : ChangeSpec := { name := "graphSays", fn := fun _ => fun
  | [d1, d2, d3] => { results := [.lit (.bool false)], args := [d1, d2, d3] }
  | _ => none }
def GraphSaysWrongFalsely : Prop := graphSaysRow.holds Tryd.pinned (OpenSpec.ofChange graphSaysWrong)

/-- 'dynamolaw21.GraphJoins': WHATEVER THE INPUT: true; the input reads as it did. -/
def graphJoinsSpec : ChangeSpec := { name := "graphJoins", fn := fun _ => fun
  | [d1, d2, d3, d4] => { results := [.lit (.bool true)], args := [d1, d2, d3, d4] }
  | _ => none }
def graphJoinsRow : OpenClaim := { program := "ytmnnlimiacdeoaadoor", sum := "7f3ca7c8048fdb6b0dc270b0f2258b6f806d274b0ad3608ce8a96ea2201cc4b4", func := "dynamo/dynamolaw21.GraphJoins", spec := "graphJoins", named := ["dynamo/graph.ends"], apart := false, laid := [("dynamo/graph.ends", laid_dynamo_graph_ends)] }
def GraphJoinsSaid : Prop := graphJoinsRow.holds Tryd.pinned (OpenSpec.ofChange graphJoinsSpec)

/-- ITS FALSE NEIGHBOUR: 'it returns false'. Refute it at one input. -/
def graphJoinsWrong : ChangeSpec := { name := "graphJoins", fn := fun _ => fun
  | [d1, d2, d3, d4] => { results := [.lit (.bool false)], args := [d1, d2, d3, d4] }
  | _ => none }
def GraphJoinsWrongFalsely : Prop := graphJoinsRow.holds Tryd.pinned (OpenSpec.ofChange graphJoinsWrong)

/-- 'dynamolaw21.GraphEnds': WHATEVER THE INPUT: true; the input reads as it did. -/
def graphEndsSpec : ChangeSpec := { name := "graphEnds", fn := fun _ => fun
  | [d1, d2] => { results := [.lit (.bool true)], args := [d1, d2] }
  | _ => none }
def graphEndsRow : OpenClaim := { program := "ytmnnlimiacdeoaadoor", sum := "7f3ca7c8048fdb6b0dc270b0f2258b6f806d274b0ad3608ce8a96ea2201cc4b4", func := "dynamo/dynamolaw21.GraphEnds", spec := "graphEnds", named := ["dynamo/graph.ends"], apart := false, laid := [("dynamo/graph.ends", laid_dynamo_graph_ends)] }
def GraphEndsSaid : Prop := graphEndsRow.holds Tryd.pinned (OpenSpec.ofChange graphEndsSpec)

/-- ITS FALSE NEIGHBOUR: 'it returns false'. Refute it at one input. -/
def graphEndsWrong : ChangeSpec := { name := "graphEnds", fn := fun _ => fun
  | [d1, d2] => { results := [.lit (.bool false)], args := [d1, d2] }
  | _ => none }
def GraphEndsWrongFalsely : Prop := graphEndsRow.holds Tryd.pinned (OpenSpec.ofChange graphEndsWrong)

/-- 'dynamolaw21.GraphFeeds': WHATEVER THE INPUT: true; the input reads as it did. -/
def graphFeedsSpec : ChangeSpec := { name := "graphFeeds", fn := fun _ => fun
  | [d1, d2] => { results := [.lit (.bool true)], args := [d1, d2] }
  | _ => none }
def graphFeedsRow : OpenClaim := { program := "ytmnnlimiacdeoaadoor", sum := "7f3ca7c8048fdb6b0dc270b0f2258b6f806d274b0ad3608ce8a96ea2201cc4b4", func := "dynamo/dynamolaw21.GraphFeeds", spec := "graphFeeds", named := ["dynamo/graph.ends"], apart := false, laid := [("dynamo/graph.ends", laid_dynamo_graph_ends)] }
def GraphFeedsSaid : Prop := graphFeedsRow.holds Tryd.pinned (OpenSpec.ofChange graphFeedsSpec)

/-- ITS FALSE NEIGHBOUR: 'it returns false'. Refute it at one input. -/
def graphFeedsWrong : ChangeSpec := { name := "graphFeeds", fn := fun _ => fun
  | [d1, d2] => { results := [.lit (.bool false)], args := [d1, d2] }
  | _ => none }
def GraphFeedsWrongFalsely : Prop := graphFeedsRow.holds Tryd.pinned (OpenSpec.ofChange graphFeedsWrong)

/-- 'dynamolaw23.SequenceSays': WHATEVER THE INPUT: true; the input reads as it did. -/
def sequenceSaysSpec : ChangeSpec := { name := "sequenceSays", fn := fun _ => fun
  | [d1, d2, d3] => { results := [.lit (.bool true)], args := [d1, d2, d3] }
  | _ => none }
def sequenceSaysRow : OpenClaim := { program := "ytmnnlimiacdeoaadoor", sum := "7f3ca7c8048fdb6b0dc270b0f2258b6f806d274b0ad3608ce8a96ea2201cc4b4", func := "dynamo/dynamolaw23.SequenceSays", spec := "sequenceSays", named := ["dynamo/graph.ends"], apart := false, laid := [("dynamo/graph.ends", laid_dynamo_graph_ends)] }
def SequenceSaysSaid : Prop := sequenceSaysRow.holds Tryd.pinned (OpenSpec.ofChange sequenceSaysSpec)

/-- ITS FALSE NEIGHBOUR: 'it returns false'. Refute it at one input. -/
def sequenceSaysWrong : ChangeSpec := { name := "sequenceSays", fn := fun _ => fun
  | [d1, d2, d3] => { results := [.lit (.bool false)], args := [d1, d2, d3] }
  | _ => none }
def SequenceSaysWrongFalsely : Prop := sequenceSaysRow.holds Tryd.pinned (OpenSpec.ofChange sequenceSaysWrong)

/-- 'dynamolaw23.SequenceSafe': WHATEVER THE INPUT: true; the input reads as it did. -/
def sequenceSafeSpec : ChangeSpec := { name := "sequenceSafe", fn := fun _ => fun
  | [d1, d2, d3, d4] => { results := [.lit (.bool true)], args := [d1, d2, d3, d4] }
  | _ => none }
def sequenceSafeRow : OpenClaim := { program := "ytmnnlimiacdeoaadoor", sum := "7f3ca7c8048fdb6b0dc270b0f2258b6f806d274b0ad3608ce8a96ea2201cc4b4", func := "dynamo/dynamolaw23.SequenceSafe", spec := "sequenceSafe", named := ["dynamo/graph.ends"], apart := false, laid := [("dynamo/graph.ends", laid_dynamo_graph_ends)] }
def SequenceSafeSaid : Prop := sequenceSafeRow.holds Tryd.pinned (OpenSpec.ofChange sequenceSafeSpec)

/-- ITS FALSE NEIGHBOUR: 'it returns false'. Refute it at one input. -/
def sequenceSafeWrong : ChangeSpec := { name := "sequenceSafe", fn := fun _ => fun
  | [d1, d2, d3, d4] => { results := [.lit (.bool false)], args := [d1, d2, d3, d4] }
  | _ => none }
def SequenceSafeWrongFalsely : Prop := sequenceSafeRow.holds Tryd.pinned (OpenSpec.ofChange sequenceSafeWrong)

/-- 'dynamolaw23.SequenceTurns': WHATEVER THE INPUT: true; the input reads as it did. -/
def sequenceTurnsSpec : ChangeSpec := { name := "sequenceTurns", fn := fun _ => fun
  | [d1, d2, d3] => { results := [.lit (.bool true)], args := [d1, d2, d3] }
  | _ => none }
def sequenceTurnsRow : OpenClaim := { program := "ytmnnlimiacdeoaadoor", sum := "7f3ca7c8048fdb6b0dc270b0f2258b6f806d274b0ad3608ce8a96ea2201cc4b4", func := "dynamo/dynamolaw23.SequenceTurns", spec := "sequenceTurns", named := ["dynamo/graph.ends"], apart := false, laid := [("dynamo/graph.ends", laid_dynamo_graph_ends)] }
def SequenceTurnsSaid : Prop := sequenceTurnsRow.holds Tryd.pinned (OpenSpec.ofChange sequenceTurnsSpec)

/-- ITS FALSE NEIGHBOUR: 'it returns false'. Refute it at one input. -/
def sequenceTurnsWrong : ChangeSpec := { name := "sequenceTurns", fn := fun _ => fun
  | [d1, d2, d3] => { results := [.lit (.bool false)], args := [d1, d2, d3] }
  | _ => none }
def SequenceTurnsWrongFalsely : Prop := sequenceTurnsRow.holds Tryd.pinned (OpenSpec.ofChange sequenceTurnsWrong)

/- THE SECOND FORM. 'bulk': how many values and letters a reading holds, each counted each time it is reached (what is shared counts as often as it is met; a slice's spare places count too). A statement '..UptoSaid' is the law's where the arguments, and the package variables that the reading takes, are together of bulk at most 1048576: NARROWER than '..Said'. Prove '..Said' where nothing that the law and all that it calls make is longer than what came in: it says more and counts as full. Else prove '..UptoSaid'. A law counts once. -/
mutual
def uptoBulk {H : Type} : DataW H → Nat
  | .lit (.string bytes) => bytes.length + 1
  | .lit _ => 1
  | .nil => 1
  | .ptr d => uptoBulk d + 1
  | .slice elems spare => uptoBulkAll elems + uptoBulkAll spare + 1
  | .agg parts => uptoBulkAll parts + 1
  | .iface _ d => uptoBulk d + 1
  | .map entries => uptoBulkEntries entries + 1
  | .held _ => 1
def uptoBulkAll {H : Type} : List (DataW H) → Nat
  | [] => 0
  | d :: r => uptoBulk d + uptoBulkAll r
def uptoBulkEntries {H : Type} : List (Lit × DataW H) → Nat
  | [] => 0
  | x :: r => uptoBulkEntry x + uptoBulkEntries r
def uptoBulkEntry {H : Type} : Lit × DataW H → Nat
  | (.string bytes, d) => bytes.length + uptoBulk d + 1
  | (_, d) => uptoBulk d + 1
 end
def uptoSmall : (H : Type) → List (DataW H) → Bool := fun _ ds => decide (uptoBulkAll ds ≤ 1048576)
def OpenSpec.upto (s : _root_.Go.ChangeSpec) : _root_.Go.OpenSpec := { _root_.Go.OpenSpec.ofChange s with cond := some uptoSmall }

/-- 'dynamolaw21.GraphSays', WHERE WHAT IT READS IS OF BULK AT MOST 1048576: true; the input reads as it did. -/
def graphSaysUptoRow : OpenClaim := { program := "ytmnnlimiacdeoaadoor", sum := "7f3ca7c8048fdb6b0dc270b0f2258b6f806d274b0ad3608ce8a96ea2201cc4b4", func := "dynamo/dynamolaw21.GraphSays", spec := "graphSays", named := ["dynamo/graph.ends"], apart := false, laid := [("dynamo/graph.ends", laid_dynamo_graph_ends)], narrowed := true }
def GraphSaysUptoSaid : Prop := graphSaysUptoRow.holds Tryd.pinned (OpenSpec.upto graphSaysSpec)

/-- 'dynamolaw21.GraphJoins', WHERE WHAT IT READS IS OF BULK AT MOST 1048576: true; the input reads as it did. -/
def graphJoinsUptoRow : OpenClaim := { program := "ytmnnlimiacdeoaadoor", sum := "7f3ca7c8048fdb6b0dc270b0f2258b6f806d274b0ad3608ce8a96ea2201cc4b4", func := "dynamo/dynamolaw21.GraphJoins", spec := "graphJoins", named := ["dynamo/graph.ends"], apart := false, laid := [("dynamo/graph.ends", laid_dynamo_graph_ends)], narrowed := true }
def GraphJoinsUptoSaid : Prop := graphJoinsUptoRow.holds Tryd.pinned (OpenSpec.upto graphJoinsSpec)

/-- 'dynamolaw21.GraphEnds', WHERE WHAT IT READS IS OF BULK AT MOST 1048576: true; the input reads as it did. -/
def graphEndsUptoRow : OpenClaim := { program := "ytmnnlimiacdeoaadoor", sum := "7f3ca7c8048fdb6b0dc270b0f2258b6f806d274b0ad3608ce8a96ea2201cc4b4", func := "dynamo/dynamolaw21.GraphEnds", spec := "graphEnds", named := ["dynamo/graph.ends"], apart := false, laid := [("dynamo/graph.ends", laid_dynamo_graph_ends)], narrowed := true }
def GraphEndsUptoSaid : Prop := graphEndsUptoRow.holds Tryd.pinned (OpenSpec.upto graphEndsSpec)

/-- 'dynamolaw21.GraphFeeds', WHERE WHAT IT READS IS OF BULK AT MOST 1048576: true; the input reads as it did. -/
def graphFeedsUptoRow : OpenClaim := { program := "ytmnnlimiacdeoaadoor", sum := "7f3ca7c8048fdb6b0dc270b0f2258b6f806d274b0ad3608ce8a96ea2201cc4b4", func := "dynamo/dynamolaw21.GraphFeeds", spec := "graphFeeds", named := ["dynamo/graph.ends"], apart := false, laid := [("dynamo/graph.ends", laid_dynamo_graph_ends)], narrowed := true }
def GraphFeedsUptoSaid : Prop := graphFeedsUptoRow.holds Tryd.pinned (OpenSpec.upto graphFeedsSpec)

/-- 'dynamolaw23.SequenceSays', WHERE WHAT IT READS IS OF BULK AT MOST 1048576: true; the input reads as it did. -/
def sequenceSaysUptoRow : OpenClaim := { program := "ytmnnlimiacdeoaadoor", sum := "7f3ca7c8048fdb6b0dc270b0f2258b6f806d274b0ad3608ce8a96ea2201cc4b4", func := "dynamo/dynamolaw23.SequenceSays", spec := "sequenceSays", named := ["dynamo/graph.ends"], apart := false, laid := [("dynamo/graph.ends", laid_dynamo_graph_ends)], narrowed := true }
def SequenceSaysUptoSaid : Prop := sequenceSaysUptoRow.holds Tryd.pinned (OpenSpec.upto sequenceSaysSpec)

/-- 'dynamolaw23.SequenceSafe', WHERE WHAT IT READS IS OF BULK AT MOST 1048576: true; the input reads as it did. -/
def sequenceSafeUptoRow : OpenClaim := { program := "ytmnnlimiacdeoaadoor", sum := "7f3ca7c8048fdb6b0dc270b0f2258b6f806d274b0ad3608ce8a96ea2201cc4b4", func := "dynamo/dynamolaw23.SequenceSafe", spec := "sequenceSafe", named := ["dynamo/graph.ends"], apart := false, laid := [("dynamo/graph.ends", laid_dynamo_graph_ends)], narrowed := true }
def SequenceSafeUptoSaid : Prop := sequenceSafeUptoRow.holds Tryd.pinned (OpenSpec.upto sequenceSafeSpec)

/-- 'dynamolaw23.SequenceTurns', WHERE WHAT IT READS IS OF BULK AT MOST 1048576: true; the input reads as it did. -/
def sequenceTurnsUptoRow : OpenClaim := { program := "ytmnnlimiacdeoaadoor", sum := "7f3ca7c8048fdb6b0dc270b0f2258b6f806d274b0ad3608ce8a96ea2201cc4b4", func := "dynamo/dynamolaw23.SequenceTurns", spec := "sequenceTurns", named := ["dynamo/graph.ends"], apart := false, laid := [("dynamo/graph.ends", laid_dynamo_graph_ends)], narrowed := true }
def SequenceTurnsUptoSaid : Prop := sequenceTurnsUptoRow.holds Tryd.pinned (OpenSpec.upto sequenceTurnsSpec)

end Rows
end Go.Proofs.YtmnnlimiacdeoaaDoor
