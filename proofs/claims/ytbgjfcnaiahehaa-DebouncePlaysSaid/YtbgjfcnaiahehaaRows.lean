/-
  No cell of these rows narrows 'for every input' (looked for: loops, veiled, ifaces, maps, wideKeys, modest, calm, conditions, laid).
  DERIVED. THE GIVEN ROWS OF THIS SEAT. 10 by the template 'for every input the law returns true; each argument reads behind the call as it read before'; 0 by the template 'total and deterministic' (their statements: YtbgjfcnaiahehaaTotals.lean).
  GIVEN WITH THE SEED: the statements are not yours to turn. If you find one false, say at which input.
  Laid BY PROGRAM, IN A SANDBOX (cutbox-rows.mjs): the forced cells as the released guide's own fill.sh prints them over the translation 99113484a599933e… (all of the seat's roots in one cut). By AI agents, Wed Nov 11 2026. No macro, syntax, notation, axiom, sorry.
-/
import Derived.Test.YtbgjfcnaiahehaaChecked
import GoSem.Claim
import GoSem.ClaimJoined
import GoSem.ClaimMapViews
import Derived.JoinedTies
import Derived.KernelRfl
namespace Go.Proofs.Ytbgjfcnaiahehaa
/- THE CELL 'sum', in the pinned program and in every row, IS THE sha256 OF THE DUMP (.gsa) THAT YtbgjfcnaiahehaaProg.lean LOADS. Nothing in Lean hashes anything: it is a label: what it is worth is what the hold of that sum in a sandbox is worth. -/
noncomputable def Try.pinned : Pinned := { name := "ytbgjfcnaiahehaa", sum := "99113484a599933e1e634b763d44b856f60a4e4a792977ec3446ab95c7436f7b", checked := Try.checked }
namespace Rows
def none {H : Type} : Left H := { results := [], args := [] }

/-- 'dynamolaw16.ContactOpens': WHATEVER THE INPUT: true; the input reads as it did. -/
def contactOpensSpec : ChangeSpec := { name := "contactOpens", fn := fun _ => fun
  | [d1, d2] => { results := [.lit (.bool true)], args := [d1, d2] }
  | _ => none }
def contactOpensRow : OpenClaim := { program := "ytbgjfcnaiahehaa", sum := "99113484a599933e1e634b763d44b856f60a4e4a792977ec3446ab95c7436f7b", func := "dynamo/dynamolaw16.ContactOpens", spec := "contactOpens", apart := false }
def ContactOpensSaid : Prop := contactOpensRow.holds Try.pinned (OpenSpec.ofChange contactOpensSpec)

/-- ITS FALSE NEIGHBOUR: 'it returns false'. Refute it at one input. -/
def contactOpensWrong : ChangeSpec := { name := "contactOpens", fn := fun _ => fun
  | [d1, d2] => { results := [.lit (.bool false)], args := [d1, d2] }
  | _ => none }
def ContactOpensWrongFalsely : Prop := contactOpensRow.holds Try.pinned (OpenSpec.ofChange contactOpensWrong)

/-- 'dynamolaw16.ContactJams': WHATEVER THE INPUT: true; the input reads as it did. -/
def contactJamsSpec : ChangeSpec := { name := "contactJams", fn := fun _ => fun
  | [d1, d2, d3, d4] => { results := [.lit (.bool true)], args := [d1, d2, d3, d4] }
  | _ => none }
def contactJamsRow : OpenClaim := { program := "ytbgjfcnaiahehaa", sum := "99113484a599933e1e634b763d44b856f60a4e4a792977ec3446ab95c7436f7b", func := "dynamo/dynamolaw16.ContactJams", spec := "contactJams", apart := false }
def ContactJamsSaid : Prop := contactJamsRow.holds Try.pinned (OpenSpec.ofChange contactJamsSpec)

/-- ITS FALSE NEIGHBOUR: 'it returns false'. Refute it at one input. -/
def contactJamsWrong : ChangeSpec := { name := "contactJams", fn := fun _ => fun
  | [d1, d2, d3, d4] => { results := [.lit (.bool false)], args := [d1, d2, d3, d4] }
  | _ => none }
def ContactJamsWrongFalsely : Prop := contactJamsRow.holds Try.pinned (OpenSpec.ofChange contactJamsWrong)

/-- 'dynamolaw16.ContactFresh': WHATEVER THE INPUT: true; the input reads as it did. -/
def contactFreshSpec : ChangeSpec := { name := "contactFresh", fn := fun _ => fun
  | [d1, d2, d3, d4] => { results := [.lit (.bool true)], args := [d1, d2, d3, d4] }
  | _ => none }
def contactFreshRow : OpenClaim := { program := "ytbgjfcnaiahehaa", sum := "99113484a599933e1e634b763d44b856f60a4e4a792977ec3446ab95c7436f7b", func := "dynamo/dynamolaw16.ContactFresh", spec := "contactFresh", apart := false }
def ContactFreshSaid : Prop := contactFreshRow.holds Try.pinned (OpenSpec.ofChange contactFreshSpec)

/-- ITS FALSE NEIGHBOUR: 'it returns false'. Refute it at one input. -/
def contactFreshWrong : ChangeSpec := { name := "contactFresh", fn := fun _ => fun
  | [d1, d2, d3, d4] => { results := [.lit (.bool false)], args := [d1, d2, d3, d4] }
  | _ => none }
def ContactFreshWrongFalsely : Prop := contactFreshRow.holds Try.pinned (OpenSpec.ofChange contactFreshWrong)

/-- 'dynamolaw16.ContactSets': WHATEVER THE INPUT: true; the input reads as it did. -/
def contactSetsSpec : ChangeSpec := { name := "contactSets", fn := fun _ => fun
  | [d1, d2, d3, d4] => { results := [.lit (.bool true)], args := [d1, d2, d3, d4] }
  | _ => none }
def contactSetsRow : OpenClaim := { program := "ytbgjfcnaiahehaa", sum := "99113484a599933e1e634b763d44b856f60a4e4a792977ec3446ab95c7436f7b", func := "dynamo/dynamolaw16.ContactSets", spec := "contactSets", apart := false }
def ContactSetsSaid : Prop := contactSetsRow.holds Try.pinned (OpenSpec.ofChange contactSetsSpec)

/-- ITS FALSE NEIGHBOUR: 'it returns false'. Refute it at one input. -/
def contactSetsWrong : ChangeSpec := { name := "contactSets", fn := fun _ => fun
  | [d1, d2, d3, d4] => { results := [.lit (.bool false)], args := [d1, d2, d3, d4] }
  | _ => none }
def ContactSetsWrongFalsely : Prop := contactSetsRow.holds Try.pinned (OpenSpec.ofChange contactSetsWrong)

/-- 'dynamolaw16.ContactProves': WHATEVER THE INPUT: true; the input reads as it did. -/
def contactProvesSpec : ChangeSpec := { name := "contactProves", fn := fun _ => fun
  | [d1, d2, d3, d4, d5] => { results := [.lit (.bool true)], args := [d1, d2, d3, d4, d5] }
  | _ => none }
def contactProvesRow : OpenClaim := { program := "ytbgjfcnaiahehaa", sum := "99113484a599933e1e634b763d44b856f60a4e4a792977ec3446ab95c7436f7b", func := "dynamo/dynamolaw16.ContactProves", spec := "contactProves", apart := false }
def ContactProvesSaid : Prop := contactProvesRow.holds Try.pinned (OpenSpec.ofChange contactProvesSpec)

/-- ITS FALSE NEIGHBOUR: 'it returns false'. Refute it at one input. -/
def contactProvesWrong : ChangeSpec := { name := "contactProves", fn := fun _ => fun
  | [d1, d2, d3, d4, d5] => { results := [.lit (.bool false)], args := [d1, d2, d3, d4, d5] }
  | _ => none }
def ContactProvesWrongFalsely : Prop := contactProvesRow.holds Try.pinned (OpenSpec.ofChange contactProvesWrong)

/-- 'dynamolaw16.ContactPlays': WHATEVER THE INPUT: true; the input reads as it did. -/
def contactPlaysSpec : ChangeSpec := { name := "contactPlays", fn := fun _ => fun
  | [d1, d2, d3, d4] => { results := [.lit (.bool true)], args := [d1, d2, d3, d4] }
  | _ => none }
def contactPlaysRow : OpenClaim := { program := "ytbgjfcnaiahehaa", sum := "99113484a599933e1e634b763d44b856f60a4e4a792977ec3446ab95c7436f7b", func := "dynamo/dynamolaw16.ContactPlays", spec := "contactPlays", apart := false }
def ContactPlaysSaid : Prop := contactPlaysRow.holds Try.pinned (OpenSpec.ofChange contactPlaysSpec)

/-- ITS FALSE NEIGHBOUR: 'it returns false'. Refute it at one input. -/
def contactPlaysWrong : ChangeSpec := { name := "contactPlays", fn := fun _ => fun
  | [d1, d2, d3, d4] => { results := [.lit (.bool false)], args := [d1, d2, d3, d4] }
  | _ => none }
def ContactPlaysWrongFalsely : Prop := contactPlaysRow.holds Try.pinned (OpenSpec.ofChange contactPlaysWrong)

/-- 'dynamolaw13.DebounceFlips': WHATEVER THE INPUT: true; the input reads as it did. -/
def debounceFlipsSpec : ChangeSpec := { name := "debounceFlips", fn := fun _ => fun
  | [d1, d2, d3] => { results := [.lit (.bool true)], args := [d1, d2, d3] }
  | _ => none }
def debounceFlipsRow : OpenClaim := { program := "ytbgjfcnaiahehaa", sum := "99113484a599933e1e634b763d44b856f60a4e4a792977ec3446ab95c7436f7b", func := "dynamo/dynamolaw13.DebounceFlips", spec := "debounceFlips", apart := false }
def DebounceFlipsSaid : Prop := debounceFlipsRow.holds Try.pinned (OpenSpec.ofChange debounceFlipsSpec)

/-- ITS FALSE NEIGHBOUR: 'it returns false'. Refute it at one input. -/
def debounceFlipsWrong : ChangeSpec := { name := "debounceFlips", fn := fun _ => fun
  | [d1, d2, d3] => { results := [.lit (.bool false)], args := [d1, d2, d3] }
  | _ => none }
def DebounceFlipsWrongFalsely : Prop := debounceFlipsRow.holds Try.pinned (OpenSpec.ofChange debounceFlipsWrong)

/-- 'dynamolaw13.DebounceSlow': WHATEVER THE INPUT: true; the input reads as it did. -/
def debounceSlowSpec : ChangeSpec := { name := "debounceSlow", fn := fun _ => fun
  | [d1, d2, d3, d4] => { results := [.lit (.bool true)], args := [d1, d2, d3, d4] }
  | _ => none }
def debounceSlowRow : OpenClaim := { program := "ytbgjfcnaiahehaa", sum := "99113484a599933e1e634b763d44b856f60a4e4a792977ec3446ab95c7436f7b", func := "dynamo/dynamolaw13.DebounceSlow", spec := "debounceSlow", apart := false }
def DebounceSlowSaid : Prop := debounceSlowRow.holds Try.pinned (OpenSpec.ofChange debounceSlowSpec)

/-- ITS FALSE NEIGHBOUR: 'it returns false'. Refute it at one input. -/
def debounceSlowWrong : ChangeSpec := { name := "debounceSlow", fn := fun _ => fun
  | [d1, d2, d3, d4] => { results := [.lit (.bool false)], args := [d1, d2, d3, d4] }
  | _ => none }
def DebounceSlowWrongFalsely : Prop := debounceSlowRow.holds Try.pinned (OpenSpec.ofChange debounceSlowWrong)

/-- 'dynamolaw13.DebouncePlays': WHATEVER THE INPUT: true; the input reads as it did. -/
def debouncePlaysSpec : ChangeSpec := { name := "debouncePlays", fn := fun _ => fun
  | [d1, d2, d3] => { results := [.lit (.bool true)], args := [d1, d2, d3] }
  | _ => none }
def debouncePlaysRow : OpenClaim := { program := "ytbgjfcnaiahehaa", sum := "99113484a599933e1e634b763d44b856f60a4e4a792977ec3446ab95c7436f7b", func := "dynamo/dynamolaw13.DebouncePlays", spec := "debouncePlays", apart := false }
def DebouncePlaysSaid : Prop := debouncePlaysRow.holds Try.pinned (OpenSpec.ofChange debouncePlaysSpec)

/-- ITS FALSE NEIGHBOUR: 'it returns false'. Refute it at one input. -/
def debouncePlaysWrong : ChangeSpec := { name := "debouncePlays", fn := fun _ => fun
  | [d1, d2, d3] => { results := [.lit (.bool false)], args := [d1, d2, d3] }
  | _ => none }
def DebouncePlaysWrongFalsely : Prop := debouncePlaysRow.holds Try.pinned (OpenSpec.ofChange debouncePlaysWrong)

/-- 'dynamolaw10.FreshNewer': WHATEVER THE INPUT: true; the input reads as it did. -/
def freshNewerSpec : ChangeSpec := { name := "freshNewer", fn := fun _ => fun
  | [d1, d2, d3, d4, d5] => { results := [.lit (.bool true)], args := [d1, d2, d3, d4, d5] }
  | _ => none }
def freshNewerRow : OpenClaim := { program := "ytbgjfcnaiahehaa", sum := "99113484a599933e1e634b763d44b856f60a4e4a792977ec3446ab95c7436f7b", func := "dynamo/dynamolaw10.FreshNewer", spec := "freshNewer", apart := false }
def FreshNewerSaid : Prop := freshNewerRow.holds Try.pinned (OpenSpec.ofChange freshNewerSpec)

/-- ITS FALSE NEIGHBOUR: 'it returns false'. Refute it at one input. -/
def freshNewerWrong : ChangeSpec := { name := "freshNewer", fn := fun _ => fun
  | [d1, d2, d3, d4, d5] => { results := [.lit (.bool false)], args := [d1, d2, d3, d4, d5] }
  | _ => none }
def FreshNewerWrongFalsely : Prop := freshNewerRow.holds Try.pinned (OpenSpec.ofChange freshNewerWrong)

/- THE SECOND FORM. 'bulk': how many values and letters a reading holds, each counted each time it is reached (what is shared counts as often as it is met; a slice's spare places count too). A statement '..UptoSaid' is the law's where the arguments, and the package variables that the reading takes, are together of bulk at most 1048576: NARROWER than '..Said'. Prove '..Said' where nothing that the law and all that it calls make is longer than what came in: it says more and counts as full. Else prove '..UptoSaid'. A law counts once. -/
mutual
def uptoBulk {H : Type} : DataW H → Nat
  | .lit (.string bytes) => bytes.length + 1
  | .lit _ => 1
  | .nil => 1
  | .ptr d => uptoBulk d + 1
  | .slice elems spare => uptoBulkAll elems + uptoBulkAll spare + 1
  | .agg parts => uptoBulkAll parts + 1
  | .iface _ d => uptoBulk d + 1
  | .map entries => uptoBulkEntries entries + 1
  | .held _ => 1
def uptoBulkAll {H : Type} : List (DataW H) → Nat
  | [] => 0
  | d :: r => uptoBulk d + uptoBulkAll r
def uptoBulkEntries {H : Type} : List (Lit × DataW H) → Nat
  | [] => 0
  | x :: r => uptoBulkEntry x + uptoBulkEntries r
def uptoBulkEntry {H : Type} : Lit × DataW H → Nat
  | (.string bytes, d) => bytes.length + uptoBulk d + 1
  | (_, d) => uptoBulk d + 1
 end
def uptoSmall : (H : Type) → List (DataW H) → Bool := fun _ ds => decide (uptoBulkAll ds ≤ 1048576)
def OpenSpec.upto (s : _root_.Go.ChangeSpec) : _root_.Go.OpenSpec := { _root_.Go.OpenSpec.ofChange s with cond := some uptoSmall }

/-- 'dynamolaw16.ContactOpens', WHERE WHAT IT READS IS OF BULK AT MOST 1048576: true; the input reads as it did. -/
def contactOpensUptoRow : OpenClaim := { program := "ytbgjfcnaiahehaa", sum := "99113484a599933e1e634b763d44b856f60a4e4a792977ec3446ab95c7436f7b", func := "dynamo/dynamolaw16.ContactOpens", spec := "contactOpens", apart := false, narrowed := true }
def ContactOpensUptoSaid : Prop := contactOpensUptoRow.holds Try.pinned (OpenSpec.upto contactOpensSpec)

/-- 'dynamolaw16.ContactJams', WHERE WHAT IT READS IS OF BULK AT MOST 1048576: true; the input reads as it did. -/
def contactJamsUptoRow : OpenClaim := { program := "ytbgjfcnaiahehaa", sum := "99113484a599933e1e634b763d44b856f60a4e4a792977ec3446ab95c7436f7b", func := "dynamo/dynamolaw16.ContactJams", spec := "contactJams", apart := false, narrowed := true }
def ContactJamsUptoSaid : Prop := contactJamsUptoRow.holds Try.pinned (OpenSpec.upto contactJamsSpec)

/-- 'dynamolaw16.ContactFresh', WHERE WHAT IT READS IS OF BULK AT MOST 1048576: true; the input reads as it did. -/
def contactFreshUptoRow : OpenClaim := { program := "ytbgjfcnaiahehaa", sum := "99113484a599933e1e634b763d44b856f60a4e4a792977ec3446ab95c7436f7b", func := "dynamo/dynamolaw16.ContactFresh", spec := "contactFresh", apart := false, narrowed := true }
def ContactFreshUptoSaid : Prop := contactFreshUptoRow.holds Try.pinned (OpenSpec.upto contactFreshSpec)

/-- 'dynamolaw16.ContactSets', WHERE WHAT IT READS IS OF BULK AT MOST 1048576: true; the input reads as it did. -/
def contactSetsUptoRow : OpenClaim := { program := "ytbgjfcnaiahehaa", sum := "99113484a599933e1e634b763d44b856f60a4e4a792977ec3446ab95c7436f7b", func := "dynamo/dynamolaw16.ContactSets", spec := "contactSets", apart := false, narrowed := true }
def ContactSetsUptoSaid : Prop := contactSetsUptoRow.holds Try.pinned (OpenSpec.upto contactSetsSpec)

/-- 'dynamolaw16.ContactProves', WHERE WHAT IT READS IS OF BULK AT MOST 1048576: true; the input reads as it did. -/
def contactProvesUptoRow : OpenClaim := { program := "ytbgjfcnaiahehaa", sum := "99113484a599933e1e634b763d44b856f60a4e4a792977ec3446ab95c7436f7b", func := "dynamo/dynamolaw16.ContactProves", spec := "contactProves", apart := false, narrowed := true }
def ContactProvesUptoSaid : Prop := contactProvesUptoRow.holds Try.pinned (OpenSpec.upto contactProvesSpec)

/-- 'dynamolaw16.ContactPlays', WHERE WHAT IT READS IS OF BULK AT MOST 1048576: true; the input reads as it did. -/
def contactPlaysUptoRow : OpenClaim := { program := "ytbgjfcnaiahehaa", sum := "99113484a599933e1e634b763d44b856f60a4e4a792977ec3446ab95c7436f7b", func := "dynamo/dynamolaw16.ContactPlays", spec := "contactPlays", apart := false, narrowed := true }
def ContactPlaysUptoSaid : Prop := contactPlaysUptoRow.holds Try.pinned (OpenSpec.upto contactPlaysSpec)

/-- 'dynamolaw13.DebounceFlips', WHERE WHAT IT READS IS OF BULK AT MOST 1048576: true; the input reads as it did. -/
def debounceFlipsUptoRow : OpenClaim := { program := "ytbgjfcnaiahehaa", sum := "99113484a599933e1e634b763d44b856f60a4e4a792977ec3446ab95c7436f7b", func := "dynamo/dynamolaw13.DebounceFlips", spec := "debounceFlips", apart := false, narrowed := true }
def DebounceFlipsUptoSaid : Prop := debounceFlipsUptoRow.holds Try.pinned (OpenSpec.upto debounceFlipsSpec)

/-- 'dynamolaw13.DebounceSlow', WHERE WHAT IT READS IS OF BULK AT MOST 1048576: true; the input reads as it did. -/
def debounceSlowUptoRow : OpenClaim := { program := "ytbgjfcnaiahehaa", sum := "99113484a599933e1e634b763d44b856f60a4e4a792977ec3446ab95c7436f7b", func := "dynamo/dynamolaw13.DebounceSlow", spec := "debounceSlow", apart := false, narrowed := true }
def DebounceSlowUptoSaid : Prop := debounceSlowUptoRow.holds Try.pinned (OpenSpec.upto debounceSlowSpec)

/-- 'dynamolaw13.DebouncePlays', WHERE WHAT IT READS IS OF BULK AT MOST 1048576: true; the input reads as it did. -/
def debouncePlaysUptoRow : OpenClaim := { program := "ytbgjfcnaiahehaa", sum := "99113484a599933e1e634b763d44b856f60a4e4a792977ec3446ab95c7436f7b", func := "dynamo/dynamolaw13.DebouncePlays", spec := "debouncePlays", apart := false, narrowed := true }
def DebouncePlaysUptoSaid : Prop := debouncePlaysUptoRow.holds Try.pinned (OpenSpec.upto debouncePlaysSpec)

/-- 'dynamolaw10.FreshNewer', WHERE WHAT IT READS IS OF BULK AT MOST 1048576: true; the input reads as it did. -/
def freshNewerUptoRow : OpenClaim := { program := "ytbgjfcnaiahehaa", sum := "99113484a599933e1e634b763d44b856f60a4e4a792977ec3446ab95c7436f7b", func := "dynamo/dynamolaw10.FreshNewer", spec := "freshNewer", apart := false, narrowed := true }
def FreshNewerUptoSaid : Prop := freshNewerUptoRow.holds Try.pinned (OpenSpec.upto freshNewerSpec)

end Rows
end Go.Proofs.Ytbgjfcnaiahehaa
