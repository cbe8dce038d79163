/-
  No cell of these rows narrows 'for every input' (looked for: loops, veiled, ifaces, maps, wideKeys, modest, calm, conditions, laid).
  DERIVED. THE GIVEN ROWS OF THIS SEAT. 12 by the template 'for every input the law returns true; each argument reads behind the call as it read before'; 0 by the template 'total and deterministic' (their statements: YtomjhoaffbjkgaaTotals.lean).
  GIVEN WITH THE SEED: the statements are not yours to turn. If you find one false, say at which input.
  Laid BY PROGRAM, IN A SANDBOX (cutbox-rows.mjs): the forced cells as the released guide's own fill.sh prints them over the translation 2294300fcde27d2f… (all of the seat's roots in one cut). By AI agents, Wed Nov 11 2026. No macro, syntax, notation, axiom, sorry.
-/
import Derived.Test.YtomjhoaffbjkgaaChecked
import GoSem.Claim
import GoSem.ClaimJoined
import GoSem.ClaimMapViews
import Derived.JoinedTies
import Derived.KernelRfl
namespace Go.Proofs.Ytomjhoaffbjkgaa
/- THE CELL 'sum', in the pinned program and in every row, IS THE sha256 OF THE DUMP (.gsa) THAT YtomjhoaffbjkgaaProg.lean LOADS. Nothing in Lean hashes anything: it is a label: what it is worth is what the hold of that sum in a sandbox is worth. -/
noncomputable def Try.pinned : Pinned := { name := "ytomjhoaffbjkgaa", sum := "2294300fcde27d2f695a75c40986d986f5b4da0815e7dc9e42b0a58ff6708125", checked := Try.checked }
namespace Rows
def none {H : Type} : Left H := { results := [], args := [] }

/-- 'dynamolaw26.ModeReserves': WHATEVER THE INPUT: true; the input reads as it did. -/
def modeReservesSpec : ChangeSpec := { name := "modeReserves", fn := fun _ => fun
  | [d1, d2, d3] => { results := [.lit (.bool true)], args := [d1, d2, d3] }
  | _ => none }
def modeReservesRow : OpenClaim := { program := "ytomjhoaffbjkgaa", sum := "2294300fcde27d2f695a75c40986d986f5b4da0815e7dc9e42b0a58ff6708125", func := "dynamo/dynamolaw26.ModeReserves", spec := "modeReserves", apart := false }
def ModeReservesSaid : Prop := modeReservesRow.holds Try.pinned (OpenSpec.ofChange modeReservesSpec)

/-- ITS FALSE NEIGHBOUR: 'it returns false'. Refute it at one input. -/
def modeReservesWrong : ChangeSpec := { name := "modeReserves", fn := fun _ => fun
  | [d1, d2, d3] => { results := [.lit (.bool false)], args := [d1, d2, d3] }
  | _ => none }
def ModeReservesWrongFalsely : Prop := modeReservesRow.holds Try.pinned (OpenSpec.ofChange modeReservesWrong)

/-- 'dynamolaw26.ModeKinds': WHATEVER THE INPUT: true; the input reads as it did. -/
def modeKindsSpec : ChangeSpec := { name := "modeKinds", fn := fun _ => fun
  | [d1, d2, d3, d4] => { results := [.lit (.bool true)], args := [d1, d2, d3, d4] }
  | _ => none }
def modeKindsRow : OpenClaim := { program := "ytomjhoaffbjkgaa", sum := "2294300fcde27d2f695a75c40986d986f5b4da0815e7dc9e42b0a58ff6708125", func := "dynamo/dynamolaw26.ModeKinds", spec := "modeKinds", apart := false }
def ModeKindsSaid : Prop := modeKindsRow.holds Try.pinned (OpenSpec.ofChange modeKindsSpec)

/-- ITS FALSE NEIGHBOUR: 'it returns false'. Refute it at one input. -/
def modeKindsWrong : ChangeSpec := { name := "modeKinds", fn := fun _ => fun
  | [d1, d2, d3, d4] => { results := [.lit (.bool false)], args := [d1, d2, d3, d4] }
  | _ => none }
def ModeKindsWrongFalsely : Prop := modeKindsRow.holds Try.pinned (OpenSpec.ofChange modeKindsWrong)

/-- 'dynamolaw26.ModeRanks': WHATEVER THE INPUT: true; the input reads as it did. -/
def modeRanksSpec : ChangeSpec := { name := "modeRanks", fn := fun _ => fun
  | [d1, d2, d3, d4, d5] => { results := [.lit (.bool true)], args := [d1, d2, d3, d4, d5] }
  | _ => none }
def modeRanksRow : OpenClaim := { program := "ytomjhoaffbjkgaa", sum := "2294300fcde27d2f695a75c40986d986f5b4da0815e7dc9e42b0a58ff6708125", func := "dynamo/dynamolaw26.ModeRanks", spec := "modeRanks", apart := false }
def ModeRanksSaid : Prop := modeRanksRow.holds Try.pinned (OpenSpec.ofChange modeRanksSpec)

/-- ITS FALSE NEIGHBOUR: 'it returns false'. Refute it at one input. -/
def modeRanksWrong : ChangeSpec := { name := "modeRanks", fn := fun _ => fun
  | [d1, d2, d3, d4, d5] => { results := [.lit (.bool false)], args := [d1, d2, d3, d4, d5] }
  | _ => none }
def ModeRanksWrongFalsely : Prop := modeRanksRow.holds Try.pinned (OpenSpec.ofChange modeRanksWrong)

/-- 'dynamolaw26.ModeSays': WHATEVER THE INPUT: true; the input reads as it did. -/
def modeSaysSpec : ChangeSpec := { name := "modeSays", fn := fun _ => fun
  | [d1, d2, d3, d4, d5, d6, d7] => { results := [.lit (.bool true)], args := [d1, d2, d3, d4, d5, d6, d7] }
  | _ => none }
def modeSaysRow : OpenClaim := { program := "ytomjhoaffbjkgaa", sum := "2294300fcde27d2f695a75c40986d986f5b4da0815e7dc9e42b0a58ff6708125", func := "dynamo/dynamolaw26.ModeSays", spec := "modeSays", apart := false }
def ModeSaysSaid : Prop := modeSaysRow.holds Try.pinned (OpenSpec.ofChange modeSaysSpec)

/-- ITS FALSE NEIGHBOUR: 'it returns false'. Refute it at one input. -/
def modeSaysWrong : ChangeSpec := { name := "modeSays", fn := fun _ => fun
  | [d1, d2, d3, d4, d5, d6, d7] => { results := [.lit (.bool false)], args := [d1, d2, d3, d4, d5, d6, d7] }
  | _ => none }
def ModeSaysWrongFalsely : Prop := modeSaysRow.holds Try.pinned (OpenSpec.ofChange modeSaysWrong)

/-- 'dynamolaw15.CellTemps': WHATEVER THE INPUT: true; the input reads as it did. -/
def cellTempsSpec : ChangeSpec := { name := "cellTemps", fn := fun _ => fun
  | [d1, d2, d3, d4] => { results := [.lit (.bool true)], args := [d1, d2, d3, d4] }
  | _ => none }
def cellTempsRow : OpenClaim := { program := "ytomjhoaffbjkgaa", sum := "2294300fcde27d2f695a75c40986d986f5b4da0815e7dc9e42b0a58ff6708125", func := "dynamo/dynamolaw15.CellTemps", spec := "cellTemps", apart := false }
def CellTempsSaid : Prop := cellTempsRow.holds Try.pinned (OpenSpec.ofChange cellTempsSpec)

/-- ITS FALSE NEIGHBOUR: 'it returns false'. Refute it at one input. -/
def cellTempsWrong : ChangeSpec := { name := "cellTemps", fn := fun _ => fun
  | [d1, d2, d3, d4] => { results := [.lit (.bool false)], args := [d1, d2, d3, d4] }
  | _ => none }
def CellTempsWrongFalsely : Prop := cellTempsRow.holds Try.pinned (OpenSpec.ofChange cellTempsWrong)

/-- 'dynamolaw15.CellOne': WHATEVER THE INPUT: true; the input reads as it did. -/
def cellOneSpec : ChangeSpec := { name := "cellOne", fn := fun _ => fun
  | [d1, d2, d3] => { results := [.lit (.bool true)], args := [d1, d2, d3] }
  | _ => none }
def cellOneRow : OpenClaim := { program := "ytomjhoaffbjkgaa", sum := "2294300fcde27d2f695a75c40986d986f5b4da0815e7dc9e42b0a58ff6708125", func := "dynamo/dynamolaw15.CellOne", spec := "cellOne", apart := false }
def CellOneSaid : Prop := cellOneRow.holds Try.pinned (OpenSpec.ofChange cellOneSpec)

/-- ITS FALSE NEIGHBOUR: 'it returns false'. Refute it at one input. -/
def cellOneWrong : ChangeSpec := { name := "cellOne", fn := fun _ => fun
  | [d1, d2, d3] => { results := [.lit (.bool false)], args := [d1, d2, d3] }
  | _ => none }
def CellOneWrongFalsely : Prop := cellOneRow.holds Try.pinned (OpenSpec.ofChange cellOneWrong)

/-- 'dynamolaw15.CellAll': WHATEVER THE INPUT: true; the input reads as it did. -/
def cellAllSpec : ChangeSpec := { name := "cellAll", fn := fun _ => fun
  | [d1, d2, d3, d4] => { results := [.lit (.bool true)], args := [d1, d2, d3, d4] }
  | _ => none }
def cellAllRow : OpenClaim := { program := "ytomjhoaffbjkgaa", sum := "2294300fcde27d2f695a75c40986d986f5b4da0815e7dc9e42b0a58ff6708125", func := "dynamo/dynamolaw15.CellAll", spec := "cellAll", apart := false }
def CellAllSaid : Prop := cellAllRow.holds Try.pinned (OpenSpec.ofChange cellAllSpec)

/-- ITS FALSE NEIGHBOUR: 'it returns false'. Refute it at one input. -/
def cellAllWrong : ChangeSpec := { name := "cellAll", fn := fun _ => fun
  | [d1, d2, d3, d4] => { results := [.lit (.bool false)], args := [d1, d2, d3, d4] }
  | _ => none }
def CellAllWrongFalsely : Prop := cellAllRow.holds Try.pinned (OpenSpec.ofChange cellAllWrong)

/-- 'dynamolaw15.CellSays': WHATEVER THE INPUT: true; the input reads as it did. -/
def cellSaysSpec : ChangeSpec := { name := "cellSays", fn := fun _ => fun
  | [d1, d2, d3, d4, d5, d6] => { results := [.lit (.bool true)], args := [d1, d2, d3, d4, d5, d6] }
  | _ => none }
def cellSaysRow : OpenClaim := { program := "ytomjhoaffbjkgaa", sum := "2294300fcde27d2f695a75c40986d986f5b4da0815e7dc9e42b0a58ff6708125", func := "dynamo/dynamolaw15.CellSays", spec := "cellSays", apart := false }
def CellSaysSaid : Prop := cellSaysRow.holds Try.pinned (OpenSpec.ofChange cellSaysSpec)

/-- ITS FALSE NEIGHBOUR: 'it returns false'. Refute it at one input. -/
def cellSaysWrong : ChangeSpec := { name := "cellSays", fn := fun _ => fun
  | [d1, d2, d3, d4, d5, d6] => { results := [.lit (.bool false)], args := [d1, d2, d3, d4, d5, d6] }
  | _ => none }
def CellSaysWrongFalsely : Prop := cellSaysRow.holds Try.pinned (OpenSpec.ofChange cellSaysWrong)

/-- 'dynamolaw18.CoulombRows': WHATEVER THE INPUT: true; the input reads as it did. -/
def coulombRowsSpec : ChangeSpec := { name := "coulombRows", fn := fun _ => fun
  | [d1, d2, d3, d4] => { results := [.lit (.bool true)], args := [d1, d2, d3, d4] }
  | _ => none }
def coulombRowsRow : OpenClaim := { program := "ytomjhoaffbjkgaa", sum := "2294300fcde27d2f695a75c40986d986f5b4da0815e7dc9e42b0a58ff6708125", func := "dynamo/dynamolaw18.CoulombRows", spec := "coulombRows", apart := false }
def CoulombRowsSaid : Prop := coulombRowsRow.holds Try.pinned (OpenSpec.ofChange coulombRowsSpec)

/-- ITS FALSE NEIGHBOUR: 'it returns false'. Refute it at one input. -/
def coulombRowsWrong : ChangeSpec := { name := "coulombRows", fn := fun _ => fun
  | [d1, d2, d3, d4] => { results := [.lit (.bool false)], args := [d1, d2, d3, d4] }
  | _ => none }
def CoulombRowsWrongFalsely : Prop := coulombRowsRow.holds Try.pinned (OpenSpec.ofChange coulombRowsWrong)

/-- 'dynamolaw18.CoulombBounds': WHATEVER THE INPUT: true; the input reads as it did. -/
def coulombBoundsSpec : ChangeSpec := { name := "coulombBounds", fn := fun _ => fun
  | [d1, d2, d3] => { results := [.lit (.bool true)], args := [d1, d2, d3] }
  | _ => none }
def coulombBoundsRow : OpenClaim := { program := "ytomjhoaffbjkgaa", sum := "2294300fcde27d2f695a75c40986d986f5b4da0815e7dc9e42b0a58ff6708125", func := "dynamo/dynamolaw18.CoulombBounds", spec := "coulombBounds", apart := false }
def CoulombBoundsSaid : Prop := coulombBoundsRow.holds Try.pinned (OpenSpec.ofChange coulombBoundsSpec)

/-- ITS FALSE NEIGHBOUR: 'it returns false'. Refute it at one input. -/
def coulombBoundsWrong : ChangeSpec := { name := "coulombBounds", fn := fun _ => fun
  | [d1, d2, d3] => { results := [.lit (.bool false)], args := [d1, d2, d3] }
  | _ => none }
def CoulombBoundsWrongFalsely : Prop := coulombBoundsRow.holds Try.pinned (OpenSpec.ofChange coulombBoundsWrong)

/-- 'dynamolaw18.CoulombHolds': WHATEVER THE INPUT: true; the input reads as it did. -/
def coulombHoldsSpec : ChangeSpec := { name := "coulombHolds", fn := fun _ => fun
  | [d1, d2, d3, d4, d5, d6, d7] => { results := [.lit (.bool true)], args := [d1, d2, d3, d4, d5, d6, d7] }
  | _ => none }
def coulombHoldsRow : OpenClaim := { program := "ytomjhoaffbjkgaa", sum := "2294300fcde27d2f695a75c40986d986f5b4da0815e7dc9e42b0a58ff6708125", func := "dynamo/dynamolaw18.CoulombHolds", spec := "coulombHolds", apart := false }
def CoulombHoldsSaid : Prop := coulombHoldsRow.holds Try.pinned (OpenSpec.ofChange coulombHoldsSpec)

/-- ITS FALSE NEIGHBOUR: 'it returns false'. Refute it at one input. -/
def coulombHoldsWrong : ChangeSpec := { name := "coulombHolds", fn := fun _ => fun
  | [d1, d2, d3, d4, d5, d6, d7] => { results := [.lit (.bool false)], args := [d1, d2, d3, d4, d5, d6, d7] }
  | _ => none }
def CoulombHoldsWrongFalsely : Prop := coulombHoldsRow.holds Try.pinned (OpenSpec.ofChange coulombHoldsWrong)

/-- 'dynamolaw18.CoulombPlays': WHATEVER THE INPUT: true; the input reads as it did. -/
def coulombPlaysSpec : ChangeSpec := { name := "coulombPlays", fn := fun _ => fun
  | [d1, d2, d3, d4, d5, d6] => { results := [.lit (.bool true)], args := [d1, d2, d3, d4, d5, d6] }
  | _ => none }
def coulombPlaysRow : OpenClaim := { program := "ytomjhoaffbjkgaa", sum := "2294300fcde27d2f695a75c40986d986f5b4da0815e7dc9e42b0a58ff6708125", func := "dynamo/dynamolaw18.CoulombPlays", spec := "coulombPlays", apart := false }
def CoulombPlaysSaid : Prop := coulombPlaysRow.holds Try.pinned (OpenSpec.ofChange coulombPlaysSpec)

/-- ITS FALSE NEIGHBOUR: 'it returns false'. Refute it at one input. -/
def coulombPlaysWrong : ChangeSpec := { name := "coulombPlays", fn := fun _ => fun
  | [d1, d2, d3, d4, d5, d6] => { results := [.lit (.bool false)], args := [d1, d2, d3, d4, d5, d6] }
  | _ => none }
def CoulombPlaysWrongFalsely : Prop := coulombPlaysRow.holds Try.pinned (OpenSpec.ofChange coulombPlaysWrong)

/- THE SECOND FORM. 'bulk': how many values and letters a reading holds, each counted each time it is reached (what is shared counts as often as it is met; a slice's spare places count too). A statement '..UptoSaid' is the law's where the arguments, and the package variables that the reading takes, are together of bulk at most 1048576: NARROWER than '..Said'. Prove '..Said' where nothing that the law and all that it calls make is longer than what came in: it says more and counts as full. Else prove '..UptoSaid'. A law counts once. -/
mutual
def uptoBulk {H : Type} : DataW H → Nat
  | .lit (.string bytes) => bytes.length + 1
  | .lit _ => 1
  | .nil => 1
  | .ptr d => uptoBulk d + 1
  | .slice elems spare => uptoBulkAll elems + uptoBulkAll spare + 1
  | .agg parts => uptoBulkAll parts + 1
  | .iface _ d => uptoBulk d + 1
  | .map entries => uptoBulkEntries entries + 1
  | .held _ => 1
def uptoBulkAll {H : Type} : List (DataW H) → Nat
  | [] => 0
  | d :: r => uptoBulk d + uptoBulkAll r
def uptoBulkEntries {H : Type} : List (Lit × DataW H) → Nat
  | [] => 0
  | x :: r => uptoBulkEntry x + uptoBulkEntries r
def uptoBulkEntry {H : Type} : Lit × DataW H → Nat
  | (.string bytes, d) => bytes.length + uptoBulk d + 1
  | (_, d) => uptoBulk d + 1
 end
def uptoSmall : (H : Type) → List (DataW H) → Bool := fun _ ds => decide (uptoBulkAll ds ≤ 1048576)
def OpenSpec.upto (s : _root_.Go.ChangeSpec) : _root_.Go.OpenSpec := { _root_.Go.OpenSpec.ofChange s with cond := some uptoSmall }

/-- 'dynamolaw26.ModeReserves', WHERE WHAT IT READS IS OF BULK AT MOST 1048576: true; the input reads as it did. -/
def modeReservesUptoRow : OpenClaim := { program := "ytomjhoaffbjkgaa", sum := "2294300fcde27d2f695a75c40986d986f5b4da0815e7dc9e42b0a58ff6708125", func := "dynamo/dynamolaw26.ModeReserves", spec := "modeReserves", apart := false, narrowed := true }
def ModeReservesUptoSaid : Prop := modeReservesUptoRow.holds Try.pinned (OpenSpec.upto modeReservesSpec)

/-- 'dynamolaw26.ModeKinds', WHERE WHAT IT READS IS OF BULK AT MOST 1048576: true; the input reads as it did. -/
def modeKindsUptoRow : OpenClaim := { program := "ytomjhoaffbjkgaa", sum := "2294300fcde27d2f695a75c40986d986f5b4da0815e7dc9e42b0a58ff6708125", func := "dynamo/dynamolaw26.ModeKinds", spec := "modeKinds", apart := false, narrowed := true }
def ModeKindsUptoSaid : Prop := modeKindsUptoRow.holds Try.pinned (OpenSpec.upto modeKindsSpec)

/-- 'dynamolaw26.ModeRanks', WHERE WHAT IT READS IS OF BULK AT MOST 1048576: true; the input reads as it did. -/
def modeRanksUptoRow : OpenClaim := { program := "ytomjhoaffbjkgaa", sum := "2294300fcde27d2f695a75c40986d986f5b4da0815e7dc9e42b0a58ff6708125", func := "dynamo/dynamolaw26.ModeRanks", spec := "modeRanks", apart := false, narrowed := true }
def ModeRanksUptoSaid : Prop := modeRanksUptoRow.holds Try.pinned (OpenSpec.upto modeRanksSpec)

/-- 'dynamolaw26.ModeSays', WHERE WHAT IT READS IS OF BULK AT MOST 1048576: true; the input reads as it did. -/
def modeSaysUptoRow : OpenClaim := { program := "ytomjhoaffbjkgaa", sum := "2294300fcde27d2f695a75c40986d986f5b4da0815e7dc9e42b0a58ff6708125", func := "dynamo/dynamolaw26.ModeSays", spec := "modeSays", apart := false, narrowed := true }
def ModeSaysUptoSaid : Prop := modeSaysUptoRow.holds Try.pinned (OpenSpec.upto modeSaysSpec)

/-- 'dynamolaw15.CellTemps', WHERE WHAT IT READS IS OF BULK AT MOST 1048576: true; the input reads as it did. -/
def cellTempsUptoRow : OpenClaim := { program := "ytomjhoaffbjkgaa", sum := "2294300fcde27d2f695a75c40986d986f5b4da0815e7dc9e42b0a58ff6708125", func := "dynamo/dynamolaw15.CellTemps", spec := "cellTemps", apart := false, narrowed := true }
def CellTempsUptoSaid : Prop := cellTempsUptoRow.holds Try.pinned (OpenSpec.upto cellTempsSpec)

/-- 'dynamolaw15.CellOne', WHERE WHAT IT READS IS OF BULK AT MOST 1048576: true; the input reads as it did. -/
def cellOneUptoRow : OpenClaim := { program := "ytomjhoaffbjkgaa", sum := "2294300fcde27d2f695a75c40986d986f5b4da0815e7dc9e42b0a58ff6708125", func := "dynamo/dynamolaw15.CellOne", spec := "cellOne", apart := false, narrowed := true }
def CellOneUptoSaid : Prop := cellOneUptoRow.holds Try.pinned (OpenSpec.upto cellOneSpec)

/-- 'dynamolaw15.CellAll', WHERE WHAT IT READS IS OF BULK AT MOST 1048576: true; the input reads as it did. -/
def cellAllUptoRow : OpenClaim := { program := "ytomjhoaffbjkgaa", sum := "2294300fcde27d2f695a75c40986d986f5b4da0815e7dc9e42b0a58ff6708125", func := "dynamo/dynamolaw15.CellAll", spec := "cellAll", apart := false, narrowed := true }
def CellAllUptoSaid : Prop := cellAllUptoRow.holds Try.pinned (OpenSpec.upto cellAllSpec)

/-- 'dynamolaw15.CellSays', WHERE WHAT IT READS IS OF BULK AT MOST 1048576: true; the input reads as it did. -/
def cellSaysUptoRow : OpenClaim := { program := "ytomjhoaffbjkgaa", sum := "2294300fcde27d2f695a75c40986d986f5b4da0815e7dc9e42b0a58ff6708125", func := "dynamo/dynamolaw15.CellSays", spec := "cellSays", apart := false, narrowed := true }
def CellSaysUptoSaid : Prop := cellSaysUptoRow.holds Try.pinned (OpenSpec.upto cellSaysSpec)

/-- 'dynamolaw18.CoulombRows', WHERE WHAT IT READS IS OF BULK AT MOST 1048576: true; the input reads as it did. -/
def coulombRowsUptoRow : OpenClaim := { program := "ytomjhoaffbjkgaa", sum := "2294300fcde27d2f695a75c40986d986f5b4da0815e7dc9e42b0a58ff6708125", func := "dynamo/dynamolaw18.CoulombRows", spec := "coulombRows", apart := false, narrowed := true }
def CoulombRowsUptoSaid : Prop := coulombRowsUptoRow.holds Try.pinned (OpenSpec.upto coulombRowsSpec)

/-- 'dynamolaw18.CoulombBounds', WHERE WHAT IT READS IS OF BULK AT MOST 1048576: true; the input reads as it did. -/
def coulombBoundsUptoRow : OpenClaim := { program := "ytomjhoaffbjkgaa", sum := "2294300fcde27d2f695a75c40986d986f5b4da0815e7dc9e42b0a58ff6708125", func := "dynamo/dynamolaw18.CoulombBounds", spec := "coulombBounds", apart := false, narrowed := true }
def CoulombBoundsUptoSaid : Prop := coulombBoundsUptoRow.holds Try.pinned (OpenSpec.upto coulombBoundsSpec)

/-- 'dynamolaw18.CoulombHolds', WHERE WHAT IT READS IS OF BULK AT MOST 1048576: true; the input reads as it did. -/
def coulombHoldsUptoRow : OpenClaim := { program := "ytomjhoaffbjkgaa", sum := "2294300fcde27d2f695a75c40986d986f5b4da0815e7dc9e42b0a58ff6708125", func := "dynamo/dynamolaw18.CoulombHolds", spec := "coulombHolds", apart := false, narrowed := true }
def CoulombHoldsUptoSaid : Prop := coulombHoldsUptoRow.holds Try.pinned (OpenSpec.upto coulombHoldsSpec)

/-- 'dynamolaw18.CoulombPlays', WHERE WHAT IT READS IS OF BULK AT MOST 1048576: true; the input reads as it did. -/
def coulombPlaysUptoRow : OpenClaim := { program := "ytomjhoaffbjkgaa", sum := "2294300fcde27d2f695a75c40986d986f5b4da0815e7dc9e42b0a58ff6708125", func := "dynamo/dynamolaw18.CoulombPlays", spec := "coulombPlays", apart := false, narrowed := true }
def CoulombPlaysUptoSaid : Prop := coulombPlaysUptoRow.holds Try.pinned (OpenSpec.upto coulombPlaysSpec)

end Rows
end Go.Proofs.Ytomjhoaffbjkgaa
