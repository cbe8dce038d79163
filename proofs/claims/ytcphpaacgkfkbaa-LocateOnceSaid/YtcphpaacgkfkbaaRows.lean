/-
  No cell of these rows narrows 'for every input' (looked for: loops, veiled, ifaces, maps, wideKeys, modest, calm, conditions, laid).
  DERIVED. THE GIVEN ROWS OF THIS SEAT. 9 by the template 'for every input the law returns true; each argument reads behind the call as it read before'; 0 by the template 'total and deterministic' (their statements: YtcphpaacgkfkbaaTotals.lean).
  GIVEN WITH THE SEED: the statements are not yours to turn. If you find one false, say at which input.
  Laid BY PROGRAM, IN A SANDBOX (cutbox-rows.mjs): the forced cells as the released guide's own fill.sh prints them over the translation 523132828340635e… (all of the seat's roots in one cut). By AI agents, Wed Nov 11 2026. No macro, syntax, notation, axiom, sorry.
-/
import Derived.Test.YtcphpaacgkfkbaaChecked
import GoSem.Claim
import GoSem.ClaimJoined
import GoSem.ClaimMapViews
import Derived.JoinedTies
import Derived.KernelRfl
namespace Go.Proofs.Ytcphpaacgkfkbaa
/- THE CELL 'sum', in the pinned program and in every row, IS THE sha256 OF THE DUMP (.gsa) THAT YtcphpaacgkfkbaaProg.lean LOADS. Nothing in Lean hashes anything: it is a label: what it is worth is what the hold of that sum in a sandbox is worth. -/
noncomputable def Try.pinned : Pinned := { name := "ytcphpaacgkfkbaa", sum := "523132828340635e8d781c6f2c9fa91f71d495fe841e4c0d606ae029e3297c42", checked := Try.checked }
namespace Rows
def none {H : Type} : Left H := { results := [], args := [] }

/-- 'dynamolaw17.HealthFails': WHATEVER THE INPUT: true; the input reads as it did. -/
def healthFailsSpec : ChangeSpec := { name := "healthFails", fn := fun _ => fun
  | [d1, d2, d3] => { results := [.lit (.bool true)], args := [d1, d2, d3] }
  | _ => none }
def healthFailsRow : OpenClaim := { program := "ytcphpaacgkfkbaa", sum := "523132828340635e8d781c6f2c9fa91f71d495fe841e4c0d606ae029e3297c42", func := "dynamo/dynamolaw17.HealthFails", spec := "healthFails", apart := false }
def HealthFailsSaid : Prop := healthFailsRow.holds Try.pinned (OpenSpec.ofChange healthFailsSpec)

/-- ITS FALSE NEIGHBOUR: 'it returns false'. Refute it at one input. -/
def healthFailsWrong : ChangeSpec := { name := "healthFails", fn := fun _ => fun
  | [d1, d2, d3] => { results := [.lit (.bool false)], args := [d1, d2, d3] }
  | _ => none }
def HealthFailsWrongFalsely : Prop := healthFailsRow.holds Try.pinned (OpenSpec.ofChange healthFailsWrong)

/-- 'dynamolaw17.HealthUps': WHATEVER THE INPUT: true; the input reads as it did. -/
def healthUpsSpec : ChangeSpec := { name := "healthUps", fn := fun _ => fun
  | [d1, d2, d3, d4] => { results := [.lit (.bool true)], args := [d1, d2, d3, d4] }
  | _ => none }
def healthUpsRow : OpenClaim := { program := "ytcphpaacgkfkbaa", sum := "523132828340635e8d781c6f2c9fa91f71d495fe841e4c0d606ae029e3297c42", func := "dynamo/dynamolaw17.HealthUps", spec := "healthUps", apart := false }
def HealthUpsSaid : Prop := healthUpsRow.holds Try.pinned (OpenSpec.ofChange healthUpsSpec)

/-- ITS FALSE NEIGHBOUR: 'it returns false'. Refute it at one input. -/
def healthUpsWrong : ChangeSpec := { name := "healthUps", fn := fun _ => fun
  | [d1, d2, d3, d4] => { results := [.lit (.bool false)], args := [d1, d2, d3, d4] }
  | _ => none }
def HealthUpsWrongFalsely : Prop := healthUpsRow.holds Try.pinned (OpenSpec.ofChange healthUpsWrong)

/-- 'dynamolaw17.HealthMays': WHATEVER THE INPUT: true; the input reads as it did. -/
def healthMaysSpec : ChangeSpec := { name := "healthMays", fn := fun _ => fun
  | [d1, d2] => { results := [.lit (.bool true)], args := [d1, d2] }
  | _ => none }
def healthMaysRow : OpenClaim := { program := "ytcphpaacgkfkbaa", sum := "523132828340635e8d781c6f2c9fa91f71d495fe841e4c0d606ae029e3297c42", func := "dynamo/dynamolaw17.HealthMays", spec := "healthMays", apart := false }
def HealthMaysSaid : Prop := healthMaysRow.holds Try.pinned (OpenSpec.ofChange healthMaysSpec)

/-- ITS FALSE NEIGHBOUR: 'it returns false'. Refute it at one input. -/
def healthMaysWrong : ChangeSpec := { name := "healthMays", fn := fun _ => fun
  | [d1, d2] => { results := [.lit (.bool false)], args := [d1, d2] }
  | _ => none }
def HealthMaysWrongFalsely : Prop := healthMaysRow.holds Try.pinned (OpenSpec.ofChange healthMaysWrong)

/-- 'dynamolaw24.LocateSmall': WHATEVER THE INPUT: true; the input reads as it did. -/
def locateSmallSpec : ChangeSpec := { name := "locateSmall", fn := fun _ => fun
  | [d1, d2, d3] => { results := [.lit (.bool true)], args := [d1, d2, d3] }
  | _ => none }
def locateSmallRow : OpenClaim := { program := "ytcphpaacgkfkbaa", sum := "523132828340635e8d781c6f2c9fa91f71d495fe841e4c0d606ae029e3297c42", func := "dynamo/dynamolaw24.LocateSmall", spec := "locateSmall", apart := false }
def LocateSmallSaid : Prop := locateSmallRow.holds Try.pinned (OpenSpec.ofChange locateSmallSpec)

/-- ITS FALSE NEIGHBOUR: 'it returns false'. Refute it at one input. -/
def locateSmallWrong : ChangeSpec := { name := "locateSmall", fn := fun _ => fun
  | [d1, d2, d3] => { results := [.lit (.bool false)], args := [d1, d2, d3] }
  | _ => none }
def LocateSmallWrongFalsely : Prop := locateSmallRow.holds Try.pinned (OpenSpec.ofChange locateSmallWrong)

/-- 'dynamolaw24.LocateRows': WHATEVER THE INPUT: true; the input reads as it did. -/
def locateRowsSpec : ChangeSpec := { name := "locateRows", fn := fun _ => fun
  | [d1, d2, d3, d4] => { results := [.lit (.bool true)], args := [d1, d2, d3, d4] }
  | _ => none }
def locateRowsRow : OpenClaim := { program := "ytcphpaacgkfkbaa", sum := "523132828340635e8d781c6f2c9fa91f71d495fe841e4c0d606ae029e3297c42", func := "dynamo/dynamolaw24.LocateRows", spec := "locateRows", apart := false }
def LocateRowsSaid : Prop := locateRowsRow.holds Try.pinned (OpenSpec.ofChange locateRowsSpec)

/-- ITS FALSE NEIGHBOUR: 'it returns false'. Refute it at one input. -/
def locateRowsWrong : ChangeSpec := { name := "locateRows", fn := fun _ => fun
  | [d1, d2, d3, d4] => { results := [.lit (.bool false)], args := [d1, d2, d3, d4] }
  | _ => none }
def LocateRowsWrongFalsely : Prop := locateRowsRow.holds Try.pinned (OpenSpec.ofChange locateRowsWrong)

/-- 'dynamolaw24.LocateOnce': WHATEVER THE INPUT: true; the input reads as it did. -/
def locateOnceSpec : ChangeSpec := { name := "locateOnce", fn := fun _ => fun
  | [d1, d2, d3, d4] => { results := [.lit (.bool true)], args := [d1, d2, d3, d4] }
  | _ => none }
def locateOnceRow : OpenClaim := { program := "ytcphpaacgkfkbaa", sum := "523132828340635e8d781c6f2c9fa91f71d495fe841e4c0d606ae029e3297c42", func := "dynamo/dynamolaw24.LocateOnce", spec := "locateOnce", apart := false }
def LocateOnceSaid : Prop := locateOnceRow.holds Try.pinned (OpenSpec.ofChange locateOnceSpec)

/-- ITS FALSE NEIGHBOUR: 'it returns false'. Refute it at one input. -/
def locateOnceWrong : ChangeSpec := { name := "locateOnce", fn := fun _ => fun
  | [d1, d2, d3, d4] => { results := [.lit (.bool false)], args := [d1, d2, d3, d4] }
  | _ => none }
def LocateOnceWrongFalsely : Prop := locateOnceRow.holds Try.pinned (OpenSpec.ofChange locateOnceWrong)

/-- 'dynamolaw14.PhasorSays': WHATEVER THE INPUT: true; the input reads as it did. -/
def phasorSaysSpec : ChangeSpec := { name := "phasorSays", fn := fun _ => fun
  | [d1, d2, d3, d4, d5] => { results := [.lit (.bool true)], args := [d1, d2, d3, d4, d5] }
  | _ => none }
def phasorSaysRow : OpenClaim := { program := "ytcphpaacgkfkbaa", sum := "523132828340635e8d781c6f2c9fa91f71d495fe841e4c0d606ae029e3297c42", func := "dynamo/dynamolaw14.PhasorSays", spec := "phasorSays", apart := false }
def PhasorSaysSaid : Prop := phasorSaysRow.holds Try.pinned (OpenSpec.ofChange phasorSaysSpec)

/-- ITS FALSE NEIGHBOUR: 'it returns false'. Refute it at one input. -/
def phasorSaysWrong : ChangeSpec := { name := "phasorSays", fn := fun _ => fun
  | [d1, d2, d3, d4, d5] => { results := [.lit (.bool false)], args := [d1, d2, d3, d4, d5] }
  | _ => none }
def PhasorSaysWrongFalsely : Prop := phasorSaysRow.holds Try.pinned (OpenSpec.ofChange phasorSaysWrong)

/-- 'dynamolaw14.PhasorTurns': WHATEVER THE INPUT: true; the input reads as it did. -/
def phasorTurnsSpec : ChangeSpec := { name := "phasorTurns", fn := fun _ => fun
  | [d1, d2, d3, d4, d5, d6] => { results := [.lit (.bool true)], args := [d1, d2, d3, d4, d5, d6] }
  | _ => none }
def phasorTurnsRow : OpenClaim := { program := "ytcphpaacgkfkbaa", sum := "523132828340635e8d781c6f2c9fa91f71d495fe841e4c0d606ae029e3297c42", func := "dynamo/dynamolaw14.PhasorTurns", spec := "phasorTurns", apart := false }
def PhasorTurnsSaid : Prop := phasorTurnsRow.holds Try.pinned (OpenSpec.ofChange phasorTurnsSpec)

/-- ITS FALSE NEIGHBOUR: 'it returns false'. Refute it at one input. -/
def phasorTurnsWrong : ChangeSpec := { name := "phasorTurns", fn := fun _ => fun
  | [d1, d2, d3, d4, d5, d6] => { results := [.lit (.bool false)], args := [d1, d2, d3, d4, d5, d6] }
  | _ => none }
def PhasorTurnsWrongFalsely : Prop := phasorTurnsRow.holds Try.pinned (OpenSpec.ofChange phasorTurnsWrong)

/-- 'dynamolaw14.PhasorGood': WHATEVER THE INPUT: true; the input reads as it did. -/
def phasorGoodSpec : ChangeSpec := { name := "phasorGood", fn := fun _ => fun
  | [d1, d2, d3, d4] => { results := [.lit (.bool true)], args := [d1, d2, d3, d4] }
  | _ => none }
def phasorGoodRow : OpenClaim := { program := "ytcphpaacgkfkbaa", sum := "523132828340635e8d781c6f2c9fa91f71d495fe841e4c0d606ae029e3297c42", func := "dynamo/dynamolaw14.PhasorGood", spec := "phasorGood", apart := false }
def PhasorGoodSaid : Prop := phasorGoodRow.holds Try.pinned (OpenSpec.ofChange phasorGoodSpec)

/-- ITS FALSE NEIGHBOUR: 'it returns false'. Refute it at one input. -/
def phasorGoodWrong : ChangeSpec := { name := "phasorGood", fn := fun _ => fun
  | [d1, d2, d3, d4] => { results := [.lit (.bool false)], args := [d1, d2, d3, d4] }
  | _ => none }
def PhasorGoodWrongFalsely : Prop := phasorGoodRow.holds Try.pinned (OpenSpec.ofChange phasorGoodWrong)

/- THE SECOND FORM. 'bulk': how many values and letters a reading holds, each counted each time it is reached (what is shared counts as often as it is met; a slice's spare places count too). A statement '..UptoSaid' is the law's where the arguments, and the package variables that the reading takes, are together of bulk at most 1048576: NARROWER than '..Said'. Prove '..Said' where nothing that the law and all that it calls make is longer than what came in: it says more and counts as full. Else prove '..UptoSaid'. A law counts once. -/
mutual
def uptoBulk {H : Type} : DataW H → Nat
  | .lit (.string bytes) => bytes.length + 1
  | .lit _ => 1
  | .nil => 1
  | .ptr d => uptoBulk d + 1
  | .slice elems spare => uptoBulkAll elems + uptoBulkAll spare + 1
  | .agg parts => uptoBulkAll parts + 1
  | .iface _ d => uptoBulk d + 1
  | .map entries => uptoBulkEntries entries + 1
  | .held _ => 1
def uptoBulkAll {H : Type} : List (DataW H) → Nat
  | [] => 0
  | d :: r => uptoBulk d + uptoBulkAll r
def uptoBulkEntries {H : Type} : List (Lit × DataW H) → Nat
  | [] => 0
  | x :: r => uptoBulkEntry x + uptoBulkEntries r
def uptoBulkEntry {H : Type} : Lit × DataW H → Nat
  | (.string bytes, d) => bytes.length + uptoBulk d + 1
  | (_, d) => uptoBulk d + 1
 end
def uptoSmall : (H : Type) → List (DataW H) → Bool := fun _ ds => decide (uptoBulkAll ds ≤ 1048576)
def OpenSpec.upto (s : _root_.Go.ChangeSpec) : _root_.Go.OpenSpec := { _root_.Go.OpenSpec.ofChange s with cond := some uptoSmall }

/-- 'dynamolaw17.HealthFails', WHERE WHAT IT READS IS OF BULK AT MOST 1048576: true; the input reads as it did. -/
def healthFailsUptoRow : OpenClaim := { program := "ytcphpaacgkfkbaa", sum := "523132828340635e8d781c6f2c9fa91f71d495fe841e4c0d606ae029e3297c42", func := "dynamo/dynamolaw17.HealthFails", spec := "healthFails", apart := false, narrowed := true }
def HealthFailsUptoSaid : Prop := healthFailsUptoRow.holds Try.pinned (OpenSpec.upto healthFailsSpec)

/-- 'dynamolaw17.HealthUps', WHERE WHAT IT READS IS OF BULK AT MOST 1048576: true; the input reads as it did. -/
def healthUpsUptoRow : OpenClaim := { program := "ytcphpaacgkfkbaa", sum := "523132828340635e8d781c6f2c9fa91f71d495fe841e4c0d606ae029e3297c42", func := "dynamo/dynamolaw17.HealthUps", spec := "healthUps", apart := false, narrowed := true }
def HealthUpsUptoSaid : Prop := healthUpsUptoRow.holds Try.pinned (OpenSpec.upto healthUpsSpec)

/-- 'dynamolaw17.HealthMays', WHERE WHAT IT READS IS OF BULK AT MOST 1048576: true; the input reads as it did. -/
def healthMaysUptoRow : OpenClaim := { program := "ytcphpaacgkfkbaa", sum := "523132828340635e8d781c6f2c9fa91f71d495fe841e4c0d606ae029e3297c42", func := "dynamo/dynamolaw17.HealthMays", spec := "healthMays", apart := false, narrowed := true }
def HealthMaysUptoSaid : Prop := healthMaysUptoRow.holds Try.pinned (OpenSpec.upto healthMaysSpec)

/-- 'dynamolaw24.LocateSmall', WHERE WHAT IT READS IS OF BULK AT MOST 1048576: true; the input reads as it did. -/
def locateSmallUptoRow : OpenClaim := { program := "ytcphpaacgkfkbaa", sum := "523132828340635e8d781c6f2c9fa91f71d495fe841e4c0d606ae029e3297c42", func := "dynamo/dynamolaw24.LocateSmall", spec := "locateSmall", apart := false, narrowed := true }
def LocateSmallUptoSaid : Prop := locateSmallUptoRow.holds Try.pinned (OpenSpec.upto locateSmallSpec)

/-- 'dynamolaw24.LocateRows', WHERE WHAT IT READS IS OF BULK AT MOST 1048576: true; the input reads as it did. -/
def locateRowsUptoRow : OpenClaim := { program := "ytcphpaacgkfkbaa", sum := "523132828340635e8d781c6f2c9fa91f71d495fe841e4c0d606ae029e3297c42", func := "dynamo/dynamolaw24.LocateRows", spec := "locateRows", apart := false, narrowed := true }
def LocateRowsUptoSaid : Prop := locateRowsUptoRow.holds Try.pinned (OpenSpec.upto locateRowsSpec)

/-- 'dynamolaw24.LocateOnce', WHERE WHAT IT READS IS OF BULK AT MOST 1048576: true; the input reads as it did. -/
def locateOnceUptoRow : OpenClaim := { program := "ytcphpaacgkfkbaa", sum := "523132828340635e8d781c6f2c9fa91f71d495fe841e4c0d606ae029e3297c42", func := "dynamo/dynamolaw24.LocateOnce", spec := "locateOnce", apart := false, narrowed := true }
def LocateOnceUptoSaid : Prop := locateOnceUptoRow.holds Try.pinned (OpenSpec.upto locateOnceSpec)

/-- 'dynamolaw14.PhasorSays', WHERE WHAT IT READS IS OF BULK AT MOST 1048576: true; the input reads as it did. -/
def phasorSaysUptoRow : OpenClaim := { program := "ytcphpaacgkfkbaa", sum := "523132828340635e8d781c6f2c9fa91f71d495fe841e4c0d606ae029e3297c42", func := "dynamo/dynamolaw14.PhasorSays", spec := "phasorSays", apart := false, narrowed := true }
def PhasorSaysUptoSaid : Prop := phasorSaysUptoRow.holds Try.pinned (OpenSpec.upto phasorSaysSpec)

/-- 'dynamolaw14.PhasorTurns', WHERE WHAT IT READS IS OF BULK AT MOST 1048576: true; the input reads as it did. -/
def phasorTurnsUptoRow : OpenClaim := { program := "ytcphpaacgkfkbaa", sum := "523132828340635e8d781c6f2c9fa91f71d495fe841e4c0d606ae029e3297c42", func := "dynamo/dynamolaw14.PhasorTurns", spec := "phasorTurns", apart := false, narrowed := true }
def PhasorTurnsUptoSaid : Prop := phasorTurnsUptoRow.holds Try.pinned (OpenSpec.upto phasorTurnsSpec)

/-- 'dynamolaw14.PhasorGood', WHERE WHAT IT READS IS OF BULK AT MOST 1048576: true; the input reads as it did. -/
def phasorGoodUptoRow : OpenClaim := { program := "ytcphpaacgkfkbaa", sum := "523132828340635e8d781c6f2c9fa91f71d495fe841e4c0d606ae029e3297c42", func := "dynamo/dynamolaw14.PhasorGood", spec := "phasorGood", apart := false, narrowed := true }
def PhasorGoodUptoSaid : Prop := phasorGoodUptoRow.holds Try.pinned (OpenSpec.upto phasorGoodSpec)

end Rows
end Go.Proofs.Ytcphpaacgkfkbaa
