/-
  No cell of these rows narrows 'for every input' (looked for: loops, veiled, ifaces, maps, wideKeys, modest, calm, conditions, laid).
  DERIVED. THE GIVEN ROWS OF THIS SEAT. 3 by the template 'for every input the law returns true; each argument reads behind the call as it read before'; 0 by the template 'total and deterministic' (their statements: YtlmeelkoanijoaaTotals.lean).
  GIVEN WITH THE SEED: the statements are not yours to turn. If you find one false, say at which input.
  Laid BY PROGRAM, IN A SANDBOX (cutbox-rows.mjs): the forced cells as the released guide's own fill.sh prints them over the translation 936b22f4bfd3b14b… (all of the seat's roots in one cut). By AI agents, Wed Nov 11 2026. No macro, syntax, notation, axiom, sorry.
-/
import Derived.Test.YtlmeelkoanijoaaChecked
import GoSem.Claim
import GoSem.ClaimJoined
import GoSem.ClaimMapViews
import Derived.JoinedTies
import Derived.KernelRfl
namespace Go.Proofs.Ytlmeelkoanijoaa
/- THE CELL 'sum', in the pinned program and in every row, IS THE sha256 OF THE DUMP (.gsa) THAT YtlmeelkoanijoaaProg.lean LOADS. Nothing in Lean hashes anything: it is a label: what it is worth is what the hold of that sum in a sandbox is worth. -/
noncomputable def Try.pinned : Pinned := { name := "ytlmeelkoanijoaa", sum := "936b22f4bfd3b14b773d9fc13617b3b51522f9278deb17dc5df0406fad1e2a2a", checked := Try.checked }
namespace Rows
def none {H : Type} : Left H := { results := [], args := [] }

/-- 'dynamolaw13.DebounceRows': WHATEVER THE INPUT: true; the input reads as it did. -/
def debounceRowsSpec : ChangeSpec := { name := "debounceRows", fn := fun _ => fun
  | [d1, d2, d3] => { results := [.lit (.bool true)], args := [d1, d2, d3] }
  | _ => none }
def debounceRowsRow : OpenClaim := { program := "ytlmeelkoanijoaa", sum := "936b22f4bfd3b14b773d9fc13617b3b51522f9278deb17dc5df0406fad1e2a2a", func := "dynamo/dynamolaw13.DebounceRows", spec := "debounceRows", apart := false }
def DebounceRowsSaid : Prop := debounceRowsRow.holds Try.pinned (OpenSpec.ofChange debounceRowsSpec)

/-- ITS FALSE NEIGHBOUR: 'it returns false'. Refute it at one input. -/
def debounceRowsWrong : ChangeSpec := { name := "debounceRows", fn := fun _ => fun
  | [d1, d2, d3] => { results := [.lit (.bool false)], args := [d1, d2, d3] }
  | _ => none }
def DebounceRowsWrongFalsely : Prop := debounceRowsRow.holds Try.pinned (OpenSpec.ofChange debounceRowsWrong)

/-- 'dynamolaw23.SequenceComes': WHATEVER THE INPUT: true; the input reads as it did. -/
def sequenceComesSpec : ChangeSpec := { name := "sequenceComes", fn := fun _ => fun
  | [d1, d2, d3] => { results := [.lit (.bool true)], args := [d1, d2, d3] }
  | _ => none }
def sequenceComesRow : OpenClaim := { program := "ytlmeelkoanijoaa", sum := "936b22f4bfd3b14b773d9fc13617b3b51522f9278deb17dc5df0406fad1e2a2a", func := "dynamo/dynamolaw23.SequenceComes", spec := "sequenceComes", apart := false }
def SequenceComesSaid : Prop := sequenceComesRow.holds Try.pinned (OpenSpec.ofChange sequenceComesSpec)

/-- ITS FALSE NEIGHBOUR: 'it returns false'. Refute it at one input. -/
def sequenceComesWrong : ChangeSpec := { name := "sequenceComes", fn := fun _ => fun
  | [d1, d2, d3] => { results := [.lit (.bool false)], args := [d1, d2, d3] }
  | _ => none }
def SequenceComesWrongFalsely : Prop := sequenceComesRow.holds Try.pinned (OpenSpec.ofChange sequenceComesWrong)

/-- 'dynamolaw23.SequenceLeaves': WHATEVER THE INPUT: true; the input reads as it did. -/
def sequenceLeavesSpec : ChangeSpec := { name := "sequenceLeaves", fn := fun _ => fun
  | [d1, d2, d3] => { results := [.lit (.bool true)], args := [d1, d2, d3] }
  | _ => none }
def sequenceLeavesRow : OpenClaim := { program := "ytlmeelkoanijoaa", sum := "936b22f4bfd3b14b773d9fc13617b3b51522f9278deb17dc5df0406fad1e2a2a", func := "dynamo/dynamolaw23.SequenceLeaves", spec := "sequenceLeaves", apart := false }
def SequenceLeavesSaid : Prop := sequenceLeavesRow.holds Try.pinned (OpenSpec.ofChange sequenceLeavesSpec)

/-- ITS FALSE NEIGHBOUR: 'it returns false'. Refute it at one input. -/
def sequenceLeavesWrong : ChangeSpec := { name := "sequenceLeaves", fn := fun _ => fun
  | [d1, d2, d3] => { results := [.lit (.bool false)], args := [d1, d2, d3] }
  | _ => none }
def SequenceLeavesWrongFalsely : Prop := sequenceLeavesRow.holds Try.pinned (OpenSpec.ofChange sequenceLeavesWrong)

/- THE SECOND FORM. 'bulk': how many values and letters a reading holds, each counted each time it is reached (what is shared counts as often as it is met; a slice's spare places count too). A statement '..UptoSaid' is the law's where the arguments, and the package variables that the reading takes, are together of bulk at most 1048576: NARROWER than '..Said'. Prove '..Said' where nothing that the law and all that it calls make is longer than what came in: it says more and counts as full. Else prove '..UptoSaid'. A law counts once. -/
mutual
def uptoBulk {H : Type} : DataW H → Nat
  | .lit (.string bytes) => bytes.length + 1
  | .lit _ => 1
  | .nil => 1
  | .ptr d => uptoBulk d + 1
  | .slice elems spare => uptoBulkAll elems + uptoBulkAll spare + 1
  | .agg parts => uptoBulkAll parts + 1
  | .iface _ d => uptoBulk d + 1
  | .map entries => uptoBulkEntries entries + 1
  | .held _ => 1
def uptoBulkAll {H : Type} : List (DataW H) → Nat
  | [] => 0
  | d :: r => uptoBulk d + uptoBulkAll r
def uptoBulkEntries {H : Type} : List (Lit × DataW H) → Nat
  | [] => 0
  | x :: r => uptoBulkEntry x + uptoBulkEntries r
def uptoBulkEntry {H : Type} : Lit × DataW H → Nat
  | (.string bytes, d) => bytes.length + uptoBulk d + 1
  | (_, d) => uptoBulk d + 1
 end
def uptoSmall : (H : Type) → List (DataW H) → Bool := fun _ ds => decide (uptoBulkAll ds ≤ 1048576)
def OpenSpec.upto (s : _root_.Go.ChangeSpec) : _root_.Go.OpenSpec := { _root_.Go.OpenSpec.ofChange s with cond := some uptoSmall }

/-- 'dynamolaw13.DebounceRows', WHERE WHAT IT READS IS OF BULK AT MOST 1048576: true; the input reads as it did. -/
def debounceRowsUptoRow : OpenClaim := { program := "ytlmeelkoanijoaa", sum := "936b22f4bfd3b14b773d9fc13617b3b51522f9278deb17dc5df0406fad1e2a2a", func := "dynamo/dynamolaw13.DebounceRows", spec := "debounceRows", apart := false, narrowed := true }
def DebounceRowsUptoSaid : Prop := debounceRowsUptoRow.holds Try.pinned (OpenSpec.upto debounceRowsSpec)

/-- 'dynamolaw23.SequenceComes', WHERE WHAT IT READS IS OF BULK AT MOST 1048576: true; the input reads as it did. -/
def sequenceComesUptoRow : OpenClaim := { program := "ytlmeelkoanijoaa", sum := "936b22f4bfd3b14b773d9fc13617b3b51522f9278deb17dc5df0406fad1e2a2a", func := "dynamo/dynamolaw23.SequenceComes", spec := "sequenceComes", apart := false, narrowed := true }
def SequenceComesUptoSaid : Prop := sequenceComesUptoRow.holds Try.pinned (OpenSpec.upto sequenceComesSpec)

/-- 'dynamolaw23.SequenceLeaves', WHERE WHAT IT READS IS OF BULK AT MOST 1048576: true; the input reads as it did. -/
def sequenceLeavesUptoRow : OpenClaim := { program := "ytlmeelkoanijoaa", sum := "936b22f4bfd3b14b773d9fc13617b3b51522f9278deb17dc5df0406fad1e2a2a", func := "dynamo/dynamolaw23.SequenceLeaves", spec := "sequenceLeaves", apart := false, narrowed := true }
def SequenceLeavesUptoSaid : Prop := sequenceLeavesUptoRow.holds Try.pinned (OpenSpec.upto sequenceLeavesSpec)

end Rows
end Go.Proofs.Ytlmeelkoanijoaa
