/-
  NARROWER THAN 'FOR EVERY INPUT', by the rows' own cells (each row's printed sentence says how): PilotSays: laid · PilotLands: laid · PilotBodies: laid · ActUnlike: laid · ActSays: laid · ActBack: laid · ActBounds: laid · SensorSays: laid · SensorBack: laid · SensorBodies: laid.
  DERIVED. THE GIVEN ROWS OF THIS SEAT. 10 by the template 'for every input the law returns true; each argument reads behind the call as it read before'; 0 by the template 'total and deterministic' (their statements: YtiiomiekjlggfaaDoorTotals.lean).
  GIVEN WITH THE SEED: the statements are not yours to turn. If you find one false, say at which input.
  Laid BY PROGRAM, IN A SANDBOX (cutbox-rows.mjs): the forced cells as the released guide's own fill.sh prints them over the translation ba033bb52a52ad63… (all of the seat's roots in one cut). By AI agents, Wed Nov 11 2026. No macro, syntax, notation, axiom, sorry.
-/
import Derived.Test.YtiiomiekjlggfaaDoorChecked
import GoSem.Claim
import GoSem.ClaimJoined
import GoSem.ClaimMapViews
import Derived.JoinedTies
import Derived.KernelRfl
namespace Go.Proofs.YtiiomiekjlggfaaDoor
/- THE CELL 'sum', in the pinned program and in every row, IS THE sha256 OF THE DUMP (.gsa) THAT YtiiomiekjlggfaaDoorProg.lean LOADS. Nothing in Lean hashes anything: it is a label: what it is worth is what the hold of that sum in a sandbox is worth. -/
noncomputable def Tryd.pinned : Pinned := { name := "ytiiomiekjlggfaadoor", sum := "ba033bb52a52ad636841779e20a190370b4c01ef00228453734f5689a7611ad9", checked := Tryd.checked }
namespace Rows
def none {H : Type} : Left H := { results := [], args := [] }

/- WHAT THE LISTED PACKAGE-LEVEL VARIABLES READ AS WHEN THE CALL BEGINS. Each datum BY PROGRAM (the guide's laid-datum.mjs) off the statement by which the dump's own 'gosem.cut.vars' lays the variable. In a bare row this is a premise. The card (YtiiomiekjlggfaaDoorCards.lean) ties it to the program's text. -/
def laid_dynamo_api_ErrRange {H : Type} : DataW H := .iface "*errors.errorString" (.ptr (.agg [.lit (.string [97, 32, 110, 117, 109, 98, 101, 114, 32, 111, 117, 116, 32, 111, 102, 32, 105, 116, 115, 32, 114, 97, 110, 103, 101])]))
def laid_dynamo_api_ErrLong {H : Type} : DataW H := .iface "*errors.errorString" (.ptr (.agg [.lit (.string [109, 111, 114, 101, 32, 116, 104, 97, 110, 32, 109, 97, 121, 32, 98, 101])]))
def laid_dynamo_api_ErrShort {H : Type} : DataW H := .iface "*errors.errorString" (.ptr (.agg [.lit (.string [108, 101, 115, 115, 32, 116, 104, 97, 110, 32, 104, 97, 115, 32, 116, 111, 32, 98, 101])]))
def laid_dynamo_api_ErrSum {H : Type} : DataW H := .iface "*errors.errorString" (.ptr (.agg [.lit (.string [97, 32, 115, 117, 109, 32, 116, 104, 97, 116, 32, 100, 111, 101, 115, 32, 110, 111, 116, 32, 102, 105, 116])]))
def laid_dynamo_api_ErrTable {H : Type} : DataW H := .iface "*errors.errorString" (.ptr (.agg [.lit (.string [97, 32, 116, 97, 98, 108, 101, 32, 116, 104, 97, 116, 32, 100, 111, 101, 115, 32, 110, 111, 116, 32, 114, 105, 115, 101])]))
def laid_dynamo_api_ErrConfig {H : Type} : DataW H := .iface "*errors.errorString" (.ptr (.agg [.lit (.string [97, 32, 99, 111, 110, 102, 105, 103, 117, 114, 97, 116, 105, 111, 110, 32, 116, 104, 97, 116, 32, 99, 97, 110, 39, 116, 32, 98, 101])]))
def laid_dynamo_api_ErrNone {H : Type} : DataW H := .iface "*errors.errorString" (.ptr (.agg [.lit (.string [110, 111, 32, 114, 101, 99, 111, 114, 100])]))

/-- 'dynamolaw8.PilotSays': WHATEVER THE INPUT: true; the input reads as it did. -/
def pilotSaysSpec : ChangeSpec := { name := "pilotSays", fn := fun _ => fun
  | [d1, d2, d3, d4, d5] => { results := [.lit (.bool true)], args := [d1, d2, d3, d4, d5] }
  | _ => none }
def pilotSaysRow : OpenClaim := { program := "ytiiomiekjlggfaadoor", sum := "ba033bb52a52ad636841779e20a190370b4c01ef00228453734f5689a7611ad9", func := "dynamo/dynamolaw8.PilotSays", spec := "pilotSays", named := ["dynamo/api.ErrRange", "dynamo/api.ErrShort", "dynamo/api.ErrLong", "dynamo/api.ErrSum", "dynamo/api.ErrTable", "dynamo/api.ErrConfig", "dynamo/api.ErrNone"], apart := false, laid := [("dynamo/api.ErrRange", laid_dynamo_api_ErrRange), ("dynamo/api.ErrLong", laid_dynamo_api_ErrLong), ("dynamo/api.ErrShort", laid_dynamo_api_ErrShort), ("dynamo/api.ErrSum", laid_dynamo_api_ErrSum), ("dynamo/api.ErrTable", laid_dynamo_api_ErrTable), ("dynamo/api.ErrConfig", laid_dynamo_api_ErrConfig), ("dynamo/api.ErrNone", laid_dynamo_api_ErrNone)] }
def PilotSaysSaid : Prop := pilotSaysRow.holds Tryd.pinned (OpenSpec.ofChange pilotSaysSpec)

/-- ITS FALSE NEIGHBOUR: 'it returns false'. Refute it at one input. -/
def pilotSaysWrong : ChangeSpec := { name := "pilotSays", fn := fun _ => fun
  | [d1, d2, d3, d4, d5] => { results := [.lit (.bool false)], args := [d1, d2, d3, d4, d5] }
  | _ => none }
def PilotSaysWrongFalsely : Prop := pilotSaysRow.holds Tryd.pinned (OpenSpec.ofChange pilotSaysWrong)

/-- 'dynamolaw8.PilotLands': WHATEVER THE INPUT: true; the input reads as it did. -/
def pilotLandsSpec : ChangeSpec := { name := "pilotLands", fn := fun _ => fun
  | [d1, d2, d3, d4] => { results := [.lit (.bool true)], args := [d1, d2, d3, d4] }
  | _ => none }
def pilotLandsRow : OpenClaim := { program := "ytiiomiekjlggfaadoor", sum := "ba033bb52a52ad636841779e20a190370b4c01ef00228453734f5689a7611ad9", func := "dynamo/dynamolaw8.PilotLands", spec := "pilotLands", named := ["dynamo/api.ErrRange", "dynamo/api.ErrShort", "dynamo/api.ErrLong"], apart := false, laid := [("dynamo/api.ErrRange", laid_dynamo_api_ErrRange), ("dynamo/api.ErrLong", laid_dynamo_api_ErrLong), ("dynamo/api.ErrShort", laid_dynamo_api_ErrShort)] }
def PilotLandsSaid : Prop := pilotLandsRow.holds Tryd.pinned (OpenSpec.ofChange pilotLandsSpec)

/-- ITS FALSE NEIGHBOUR: 'it returns false'. Refute it at one input. -/
def pilotLandsWrong : ChangeSpec := { name := "pilotLands", fn := fun _ => fun
  | [d1, d2, d3, d4] => { results := [.lit (.bool false)], args := [d1, d2, d3, d4] }
  | _ => none }
def PilotLandsWrongFalsely : Prop := pilotLandsRow.holds Tryd.pinned (OpenSpec.ofChange pilotLandsWrong)

/-- 'dynamolaw8.PilotBodies': WHATEVER THE INPUT: true; the input reads as it did. -/
def pilotBodiesSpec : ChangeSpec := { name := "pilotBodies", fn := fun _ => fun
  | [d1, d2, d3, d4] => { results := [.lit (.bool true)], args := [d1, d2, d3, d4] }
  | _ => none }
def pilotBodiesRow : OpenClaim := { program := "ytiiomiekjlggfaadoor", sum := "ba033bb52a52ad636841779e20a190370b4c01ef00228453734f5689a7611ad9", func := "dynamo/dynamolaw8.PilotBodies", spec := "pilotBodies", named := ["dynamo/api.ErrRange", "dynamo/api.ErrShort", "dynamo/api.ErrLong", "dynamo/api.ErrSum", "dynamo/api.ErrTable", "dynamo/api.ErrConfig", "dynamo/api.ErrNone"], apart := false, laid := [("dynamo/api.ErrRange", laid_dynamo_api_ErrRange), ("dynamo/api.ErrLong", laid_dynamo_api_ErrLong), ("dynamo/api.ErrShort", laid_dynamo_api_ErrShort), ("dynamo/api.ErrSum", laid_dynamo_api_ErrSum), ("dynamo/api.ErrTable", laid_dynamo_api_ErrTable), ("dynamo/api.ErrConfig", laid_dynamo_api_ErrConfig), ("dynamo/api.ErrNone", laid_dynamo_api_ErrNone)] }
def PilotBodiesSaid : Prop := pilotBodiesRow.holds Tryd.pinned (OpenSpec.ofChange pilotBodiesSpec)

/-- ITS FALSE NEIGHBOUR: 'it returns false'. Refute it at one input. -/
def pilotBodiesWrong : ChangeSpec := { name := "pilotBodies", fn := fun _ => fun
  | [d1, d2, d3, d4] => { results := [.lit (.bool false)], args := [d1, d2, d3, d4] }
  | _ => none }
def PilotBodiesWrongFalsely : Prop := pilotBodiesRow.holds Tryd.pinned (OpenSpec.ofChange pilotBodiesWrong)

/-- 'dynamolaw9.ActUnlike': WHATEVER THE INPUT: true; the input reads as it did. -/
def actUnlikeSpec : ChangeSpec := { name := "actUnlike", fn := fun _ => fun
  | [d1, d2, d3, d4, d5, d6] => { results := [.lit (.bool true)], args := [d1, d2, d3, d4, d5, d6] }
  | _ => none }
def actUnlikeRow : OpenClaim := { program := "ytiiomiekjlggfaadoor", sum := "ba033bb52a52ad636841779e20a190370b4c01ef00228453734f5689a7611ad9", func := "dynamo/dynamolaw9.ActUnlike", spec := "actUnlike", named := ["dynamo/api.ErrRange"], apart := false, laid := [("dynamo/api.ErrRange", laid_dynamo_api_ErrRange)] }
def ActUnlikeSaid : Prop := actUnlikeRow.holds Tryd.pinned (OpenSpec.ofChange actUnlikeSpec)

/-- ITS FALSE NEIGHBOUR: 'it returns false'. Refute it at one input. -/
def actUnlikeWrong : ChangeSpec := { name := "actUnlike", fn := fun _ => fun
  | [d1, d2, d3, d4, d5, d6] => { results := [.lit (.bool false)], args := [d1, d2, d3, d4, d5, d6] }
  | _ => none }
def ActUnlikeWrongFalsely : Prop := actUnlikeRow.holds Tryd.pinned (OpenSpec.ofChange actUnlikeWrong)

/-- 'dynamolaw9.ActSays': WHATEVER THE INPUT: true; the input reads as it did. -/
def actSaysSpec : ChangeSpec := { name := "actSays", fn := fun _ => fun
  | [d1, d2, d3] => { results := [.lit (.bool true)], args := [d1, d2, d3] }
  | _ => none }
def actSaysRow : OpenClaim := { program := "ytiiomiekjlggfaadoor", sum := "ba033bb52a52ad636841779e20a190370b4c01ef00228453734f5689a7611ad9", func := "dynamo/dynamolaw9.ActSays", spec := "actSays", named := ["dynamo/api.ErrRange", "dynamo/api.ErrShort", "dynamo/api.ErrLong", "dynamo/api.ErrSum", "dynamo/api.ErrTable", "dynamo/api.ErrConfig", "dynamo/api.ErrNone"], apart := false, laid := [("dynamo/api.ErrRange", laid_dynamo_api_ErrRange), ("dynamo/api.ErrLong", laid_dynamo_api_ErrLong), ("dynamo/api.ErrShort", laid_dynamo_api_ErrShort), ("dynamo/api.ErrSum", laid_dynamo_api_ErrSum), ("dynamo/api.ErrTable", laid_dynamo_api_ErrTable), ("dynamo/api.ErrConfig", laid_dynamo_api_ErrConfig), ("dynamo/api.ErrNone", laid_dynamo_api_ErrNone)] }
def ActSaysSaid : Prop := actSaysRow.holds Tryd.pinned (OpenSpec.ofChange actSaysSpec)

/-- ITS FALSE NEIGHBOUR: 'it returns false'. Refute it at one input. -/
def actSaysWrong : ChangeSpec := { name := "actSays", fn := fun _ => fun
  | [d1, d2, d3] => { results := [.lit (.bool false)], args := [d1, d2, d3] }
  | _ => none }
def ActSaysWrongFalsely : Prop := actSaysRow.holds Tryd.pinned (OpenSpec.ofChange actSaysWrong)

/-- 'dynamolaw9.ActBack': WHATEVER THE INPUT: true; the input reads as it did. -/
def actBackSpec : ChangeSpec := { name := "actBack", fn := fun _ => fun
  | [d1, d2, d3, d4, d5, d6] => { results := [.lit (.bool true)], args := [d1, d2, d3, d4, d5, d6] }
  | _ => none }
def actBackRow : OpenClaim := { program := "ytiiomiekjlggfaadoor", sum := "ba033bb52a52ad636841779e20a190370b4c01ef00228453734f5689a7611ad9", func := "dynamo/dynamolaw9.ActBack", spec := "actBack", named := ["dynamo/api.ErrRange", "dynamo/api.ErrShort", "dynamo/api.ErrLong", "dynamo/api.ErrSum", "dynamo/api.ErrTable", "dynamo/api.ErrConfig", "dynamo/api.ErrNone"], apart := false, laid := [("dynamo/api.ErrRange", laid_dynamo_api_ErrRange), ("dynamo/api.ErrLong", laid_dynamo_api_ErrLong), ("dynamo/api.ErrShort", laid_dynamo_api_ErrShort), ("dynamo/api.ErrSum", laid_dynamo_api_ErrSum), ("dynamo/api.ErrTable", laid_dynamo_api_ErrTable), ("dynamo/api.ErrConfig", laid_dynamo_api_ErrConfig), ("dynamo/api.ErrNone", laid_dynamo_api_ErrNone)] }
def ActBackSaid : Prop := actBackRow.holds Tryd.pinned (OpenSpec.ofChange actBackSpec)

/-- ITS FALSE NEIGHBOUR: 'it returns false'. Refute it at one input. -/
def actBackWrong : ChangeSpec := { name := "actBack", fn := fun _ => fun
  | [d1, d2, d3, d4, d5, d6] => { results := [.lit (.bool false)], args := [d1, d2, d3, d4, d5, d6] }
  | _ => none }
def ActBackWrongFalsely : Prop := actBackRow.holds Tryd.pinned (OpenSpec.ofChange actBackWrong)

/-- 'dynamolaw9.ActBounds': WHATEVER THE INPUT: true; the input reads as it did. -/
def actBoundsSpec : ChangeSpec := { name := "actBounds", fn := fun _ => fun
  | [d1, d2] => { results := [.lit (.bool true)], args := [d1, d2] }
  | _ => none }
def actBoundsRow : OpenClaim := { program := "ytiiomiekjlggfaadoor", sum := "ba033bb52a52ad636841779e20a190370b4c01ef00228453734f5689a7611ad9", func := "dynamo/dynamolaw9.ActBounds", spec := "actBounds", named := ["dynamo/api.ErrRange", "dynamo/api.ErrLong", "dynamo/api.ErrShort", "dynamo/api.ErrSum", "dynamo/api.ErrTable", "dynamo/api.ErrConfig", "dynamo/api.ErrNone"], apart := false, laid := [("dynamo/api.ErrRange", laid_dynamo_api_ErrRange), ("dynamo/api.ErrLong", laid_dynamo_api_ErrLong), ("dynamo/api.ErrShort", laid_dynamo_api_ErrShort), ("dynamo/api.ErrSum", laid_dynamo_api_ErrSum), ("dynamo/api.ErrTable", laid_dynamo_api_ErrTable), ("dynamo/api.ErrConfig", laid_dynamo_api_ErrConfig), ("dynamo/api.ErrNone", laid_dynamo_api_ErrNone)] }
def ActBoundsSaid : Prop := actBoundsRow.holds Tryd.pinned (OpenSpec.ofChange actBoundsSpec)

/-- ITS FALSE NEIGHBOUR: 'it returns false'. Refute it at one input. -/
def actBoundsWrong : ChangeSpec := { name := "actBounds", fn := fun _ => fun
  | [d1, d2] => { results := [.lit (.bool false)], args := [d1, d2] }
  | _ => none }
def ActBoundsWrongFalsely : Prop := actBoundsRow.holds Tryd.pinned (OpenSpec.ofChange actBoundsWrong)

/-- 'dynamolaw7.SensorSays': WHATEVER THE INPUT: true; the input reads as it did. -/
def sensorSaysSpec : ChangeSpec := { name := "sensorSays", fn := fun _ => fun
  | [d1, d2, d3, d4] => { results := [.lit (.bool true)], args := [d1, d2, d3, d4] }
  | _ => none }
def sensorSaysRow : OpenClaim := { program := "ytiiomiekjlggfaadoor", sum := "ba033bb52a52ad636841779e20a190370b4c01ef00228453734f5689a7611ad9", func := "dynamo/dynamolaw7.SensorSays", spec := "sensorSays", named := ["dynamo/api.ErrRange", "dynamo/api.ErrShort", "dynamo/api.ErrLong", "dynamo/api.ErrSum", "dynamo/api.ErrTable", "dynamo/api.ErrConfig", "dynamo/api.ErrNone"], apart := false, laid := [("dynamo/api.ErrRange", laid_dynamo_api_ErrRange), ("dynamo/api.ErrLong", laid_dynamo_api_ErrLong), ("dynamo/api.ErrShort", laid_dynamo_api_ErrShort), ("dynamo/api.ErrSum", laid_dynamo_api_ErrSum), ("dynamo/api.ErrTable", laid_dynamo_api_ErrTable), ("dynamo/api.ErrConfig", laid_dynamo_api_ErrConfig), ("dynamo/api.ErrNone", laid_dynamo_api_ErrNone)] }
def SensorSaysSaid : Prop := sensorSaysRow.holds Tryd.pinned (OpenSpec.ofChange sensorSaysSpec)

/-- ITS FALSE NEIGHBOUR: 'it returns false'. Refute it at one input. -/
def sensorSaysWrong : ChangeSpec := { name := "sensorSays", fn := fun _ => fun
  | [d1, d2, d3, d4] => { results := [.lit (.bool false)], args := [d1, d2, d3, d4] }
  | _ => none }
def SensorSaysWrongFalsely : Prop := sensorSaysRow.holds Tryd.pinned (OpenSpec.ofChange sensorSaysWrong)

/-- 'dynamolaw7.SensorBack': WHATEVER THE INPUT: true; the input reads as it did. -/
def sensorBackSpec : ChangeSpec := { name := "sensorBack", fn := fun _ => fun
  | [d1, d2, d3] => { results := [.lit (.bool true)], args := [d1, d2, d3] }
  | _ => none }
def sensorBackRow : OpenClaim := { program := "ytiiomiekjlggfaadoor", sum := "ba033bb52a52ad636841779e20a190370b4c01ef00228453734f5689a7611ad9", func := "dynamo/dynamolaw7.SensorBack", spec := "sensorBack", named := ["dynamo/api.ErrRange", "dynamo/api.ErrShort", "dynamo/api.ErrLong", "dynamo/api.ErrSum", "dynamo/api.ErrTable", "dynamo/api.ErrConfig", "dynamo/api.ErrNone"], apart := false, laid := [("dynamo/api.ErrRange", laid_dynamo_api_ErrRange), ("dynamo/api.ErrLong", laid_dynamo_api_ErrLong), ("dynamo/api.ErrShort", laid_dynamo_api_ErrShort), ("dynamo/api.ErrSum", laid_dynamo_api_ErrSum), ("dynamo/api.ErrTable", laid_dynamo_api_ErrTable), ("dynamo/api.ErrConfig", laid_dynamo_api_ErrConfig), ("dynamo/api.ErrNone", laid_dynamo_api_ErrNone)] }
def SensorBackSaid : Prop := sensorBackRow.holds Tryd.pinned (OpenSpec.ofChange sensorBackSpec)

/-- ITS FALSE NEIGHBOUR: 'it returns false'. Refute it at one input. -/
def sensorBackWrong : ChangeSpec := { name := "sensorBack", fn := fun _ => fun
  | [d1, d2, d3] => { results := [.lit (.bool false)], args := [d1, d2, d3] }
  | _ => none }
def SensorBackWrongFalsely : Prop := sensorBackRow.holds Tryd.pinned (OpenSpec.ofChange sensorBackWrong)

/-- 'dynamolaw7.SensorBodies': WHATEVER THE INPUT: true; the input reads as it did. -/
def sensorBodiesSpec : ChangeSpec := { name := "sensorBodies", fn := fun _ => fun
  | [d1, d2, d3] => { results := [.lit (.bool true)], args := [d1, d2, d3] }
  | _ => none }
def sensorBodiesRow : OpenClaim := { program := "ytiiomiekjlggfaadoor", sum := "ba033bb52a52ad636841779e20a190370b4c01ef00228453734f5689a7611ad9", func := "dynamo/dynamolaw7.SensorBodies", spec := "sensorBodies", named := ["dynamo/api.ErrRange", "dynamo/api.ErrShort", "dynamo/api.ErrLong", "dynamo/api.ErrSum", "dynamo/api.ErrTable", "dynamo/api.ErrConfig", "dynamo/api.ErrNone"], apart := false, laid := [("dynamo/api.ErrRange", laid_dynamo_api_ErrRange), ("dynamo/api.ErrLong", laid_dynamo_api_ErrLong), ("dynamo/api.ErrShort", laid_dynamo_api_ErrShort), ("dynamo/api.ErrSum", laid_dynamo_api_ErrSum), ("dynamo/api.ErrTable", laid_dynamo_api_ErrTable), ("dynamo/api.ErrConfig", laid_dynamo_api_ErrConfig), ("dynamo/api.ErrNone", laid_dynamo_api_ErrNone)] }
def SensorBodiesSaid : Prop := sensorBodiesRow.holds Tryd.pinned (OpenSpec.ofChange sensorBodiesSpec)

/-- ITS FALSE NEIGHBOUR: 'it returns false'. Refute it at one input. -/
def sensorBodiesWrong : ChangeSpec := { name := "sensorBodies", fn := fun _ => fun
  | [d1, d2, d3] => { results := [.lit (.bool false)], args := [d1, d2, d3] }
  | _ => none }
def SensorBodiesWrongFalsely : Prop := sensorBodiesRow.holds Tryd.pinned (OpenSpec.ofChange sensorBodiesWrong)

/- THE SECOND FORM. 'bulk': how many values and letters a reading holds, each counted each time it is reached (what is shared counts as often as it is met; a slice's spare places count too). A statement '..UptoSaid' is the law's where the arguments, and the package variables that the reading takes, are together of bulk at most 1048576: NARROWER than '..Said'. Prove '..Said' where nothing that the law and all that it calls make is longer than what came in: it says more and counts as full. Else prove '..UptoSaid'. A law counts once. -/
mutual
def uptoBulk {H : Type} : DataW H → Nat
  | .lit (.string bytes) => bytes.length + 1
  | .lit _ => 1
  | .nil => 1
  | .ptr d => uptoBulk d + 1
  | .slice elems spare => uptoBulkAll elems + uptoBulkAll spare + 1
  | .agg parts => uptoBulkAll parts + 1
  | .iface _ d => uptoBulk d + 1
  | .map entries => uptoBulkEntries entries + 1
  | .held _ => 1
def uptoBulkAll {H : Type} : List (DataW H) → Nat
  | [] => 0
  | d :: r => uptoBulk d + uptoBulkAll r
def uptoBulkEntries {H : Type} : List (Lit × DataW H) → Nat
  | [] => 0
  | x :: r => uptoBulkEntry x + uptoBulkEntries r
def uptoBulkEntry {H : Type} : Lit × DataW H → Nat
  | (.string bytes, d) => bytes.length + uptoBulk d + 1
  | (_, d) => uptoBulk d + 1
 end
def uptoSmall : (H : Type) → List (DataW H) → Bool := fun _ ds => decide (uptoBulkAll ds ≤ 1048576)
def OpenSpec.upto (s : _root_.Go.ChangeSpec) : _root_.Go.OpenSpec := { _root_.Go.OpenSpec.ofChange s with cond := some uptoSmall }

/-- 'dynamolaw8.PilotSays', WHERE WHAT IT READS IS OF BULK AT MOST 1048576: true; the input reads as it did. -/
def pilotSaysUptoRow : OpenClaim := { program := "ytiiomiekjlggfaadoor", sum := "ba033bb52a52ad636841779e20a190370b4c01ef00228453734f5689a7611ad9", func := "dynamo/dynamolaw8.PilotSays", spec := "pilotSays", named := ["dynamo/api.ErrRange", "dynamo/api.ErrShort", "dynamo/api.ErrLong", "dynamo/api.ErrSum", "dynamo/api.ErrTable", "dynamo/api.ErrConfig", "dynamo/api.ErrNone"], apart := false, laid := [("dynamo/api.ErrRange", laid_dynamo_api_ErrRange), ("dynamo/api.ErrLong", laid_dynamo_api_ErrLong), ("dynamo/api.ErrShort", laid_dynamo_api_ErrShort), ("dynamo/api.ErrSum", laid_dynamo_api_ErrSum), ("dynamo/api.ErrTable", laid_dynamo_api_ErrTable), ("dynamo/api.ErrConfig", laid_dynamo_api_ErrConfig), ("dynamo/api.ErrNone", laid_dynamo_api_ErrNone)], narrowed := true }
def PilotSaysUptoSaid : Prop := pilotSaysUptoRow.holds Tryd.pinned (OpenSpec.upto pilotSaysSpec)

/-- 'dynamolaw8.PilotLands', WHERE WHAT IT READS IS OF BULK AT MOST 1048576: true; the input reads as it did. -/
def pilotLandsUptoRow : OpenClaim := { program := "ytiiomiekjlggfaadoor", sum := "ba033bb52a52ad636841779e20a190370b4c01ef00228453734f5689a7611ad9", func := "dynamo/dynamolaw8.PilotLands", spec := "pilotLands", named := ["dynamo/api.ErrRange", "dynamo/api.ErrShort", "dynamo/api.ErrLong"], apart := false, laid := [("dynamo/api.ErrRange", laid_dynamo_api_ErrRange), ("dynamo/api.ErrLong", laid_dynamo_api_ErrLong), ("dynamo/api.ErrShort", laid_dynamo_api_ErrShort)], narrowed := true }
def PilotLandsUptoSaid : Prop := pilotLandsUptoRow.holds Tryd.pinned (OpenSpec.upto pilotLandsSpec)

/-- 'dynamolaw8.PilotBodies', WHERE WHAT IT READS IS OF BULK AT MOST 1048576: true; the input reads as it did. -/
def pilotBodiesUptoRow : OpenClaim := { program := "ytiiomiekjlggfaadoor", sum := "ba033bb52a52ad636841779e20a190370b4c01ef00228453734f5689a7611ad9", func := "dynamo/dynamolaw8.PilotBodies", spec := "pilotBodies", named := ["dynamo/api.ErrRange", "dynamo/api.ErrShort", "dynamo/api.ErrLong", "dynamo/api.ErrSum", "dynamo/api.ErrTable", "dynamo/api.ErrConfig", "dynamo/api.ErrNone"], apart := false, laid := [("dynamo/api.ErrRange", laid_dynamo_api_ErrRange), ("dynamo/api.ErrLong", laid_dynamo_api_ErrLong), ("dynamo/api.ErrShort", laid_dynamo_api_ErrShort), ("dynamo/api.ErrSum", laid_dynamo_api_ErrSum), ("dynamo/api.ErrTable", laid_dynamo_api_ErrTable), ("dynamo/api.ErrConfig", laid_dynamo_api_ErrConfig), ("dynamo/api.ErrNone", laid_dynamo_api_ErrNone)], narrowed := true }
def PilotBodiesUptoSaid : Prop := pilotBodiesUptoRow.holds Tryd.pinned (OpenSpec.upto pilotBodiesSpec)

/-- 'dynamolaw9.ActUnlike', WHERE WHAT IT READS IS OF BULK AT MOST 1048576: true; the input reads as it did. -/
def actUnlikeUptoRow : OpenClaim := { program := "ytiiomiekjlggfaadoor", sum := "ba033bb52a52ad636841779e20a190370b4c01ef00228453734f5689a7611ad9", func := "dynamo/dynamolaw9.ActUnlike", spec := "actUnlike", named := ["dynamo/api.ErrRange"], apart := false, laid := [("dynamo/api.ErrRange", laid_dynamo_api_ErrRange)], narrowed := true }
def ActUnlikeUptoSaid : Prop := actUnlikeUptoRow.holds Tryd.pinned (OpenSpec.upto actUnlikeSpec)

/-- 'dynamolaw9.ActSays', WHERE WHAT IT READS IS OF BULK AT MOST 1048576: true; the input reads as it did. -/
def actSaysUptoRow : OpenClaim := { program := "ytiiomiekjlggfaadoor", sum := "ba033bb52a52ad636841779e20a190370b4c01ef00228453734f5689a7611ad9", func := "dynamo/dynamolaw9.ActSays", spec := "actSays", named := ["dynamo/api.ErrRange", "dynamo/api.ErrShort", "dynamo/api.ErrLong", "dynamo/api.ErrSum", "dynamo/api.ErrTable", "dynamo/api.ErrConfig", "dynamo/api.ErrNone"], apart := false, laid := [("dynamo/api.ErrRange", laid_dynamo_api_ErrRange), ("dynamo/api.ErrLong", laid_dynamo_api_ErrLong), ("dynamo/api.ErrShort", laid_dynamo_api_ErrShort), ("dynamo/api.ErrSum", laid_dynamo_api_ErrSum), ("dynamo/api.ErrTable", laid_dynamo_api_ErrTable), ("dynamo/api.ErrConfig", laid_dynamo_api_ErrConfig), ("dynamo/api.ErrNone", laid_dynamo_api_ErrNone)], narrowed := true }
def ActSaysUptoSaid : Prop := actSaysUptoRow.holds Tryd.pinned (OpenSpec.upto actSaysSpec)

/-- 'dynamolaw9.ActBack', WHERE WHAT IT READS IS OF BULK AT MOST 1048576: true; the input reads as it did. -/
def actBackUptoRow : OpenClaim := { program := "ytiiomiekjlggfaadoor", sum := "ba033bb52a52ad636841779e20a190370b4c01ef00228453734f5689a7611ad9", func := "dynamo/dynamolaw9.ActBack", spec := "actBack", named := ["dynamo/api.ErrRange", "dynamo/api.ErrShort", "dynamo/api.ErrLong", "dynamo/api.ErrSum", "dynamo/api.ErrTable", "dynamo/api.ErrConfig", "dynamo/api.ErrNone"], apart := false, laid := [("dynamo/api.ErrRange", laid_dynamo_api_ErrRange), ("dynamo/api.ErrLong", laid_dynamo_api_ErrLong), ("dynamo/api.ErrShort", laid_dynamo_api_ErrShort), ("dynamo/api.ErrSum", laid_dynamo_api_ErrSum), ("dynamo/api.ErrTable", laid_dynamo_api_ErrTable), ("dynamo/api.ErrConfig", laid_dynamo_api_ErrConfig), ("dynamo/api.ErrNone", laid_dynamo_api_ErrNone)], narrowed := true }
def ActBackUptoSaid : Prop := actBackUptoRow.holds Tryd.pinned (OpenSpec.upto actBackSpec)

/-- 'dynamolaw9.ActBounds', WHERE WHAT IT READS IS OF BULK AT MOST 1048576: true; the input reads as it did. -/
def actBoundsUptoRow : OpenClaim := { program := "ytiiomiekjlggfaadoor", sum := "ba033bb52a52ad636841779e20a190370b4c01ef00228453734f5689a7611ad9", func := "dynamo/dynamolaw9.ActBounds", spec := "actBounds", named := ["dynamo/api.ErrRange", "dynamo/api.ErrLong", "dynamo/api.ErrShort", "dynamo/api.ErrSum", "dynamo/api.ErrTable", "dynamo/api.ErrConfig", "dynamo/api.ErrNone"], apart := false, laid := [("dynamo/api.ErrRange", laid_dynamo_api_ErrRange), ("dynamo/api.ErrLong", laid_dynamo_api_ErrLong), ("dynamo/api.ErrShort", laid_dynamo_api_ErrShort), ("dynamo/api.ErrSum", laid_dynamo_api_ErrSum), ("dynamo/api.ErrTable", laid_dynamo_api_ErrTable), ("dynamo/api.ErrConfig", laid_dynamo_api_ErrConfig), ("dynamo/api.ErrNone", laid_dynamo_api_ErrNone)], narrowed := true }
def ActBoundsUptoSaid : Prop := actBoundsUptoRow.holds Tryd.pinned (OpenSpec.upto actBoundsSpec)

/-- 'dynamolaw7.SensorSays', WHERE WHAT IT READS IS OF BULK AT MOST 1048576: true; the input reads as it did. -/
def sensorSaysUptoRow : OpenClaim := { program := "ytiiomiekjlggfaadoor", sum := "ba033bb52a52ad636841779e20a190370b4c01ef00228453734f5689a7611ad9", func := "dynamo/dynamolaw7.SensorSays", spec := "sensorSays", named := ["dynamo/api.ErrRange", "dynamo/api.ErrShort", "dynamo/api.ErrLong", "dynamo/api.ErrSum", "dynamo/api.ErrTable", "dynamo/api.ErrConfig", "dynamo/api.ErrNone"], apart := false, laid := [("dynamo/api.ErrRange", laid_dynamo_api_ErrRange), ("dynamo/api.ErrLong", laid_dynamo_api_ErrLong), ("dynamo/api.ErrShort", laid_dynamo_api_ErrShort), ("dynamo/api.ErrSum", laid_dynamo_api_ErrSum), ("dynamo/api.ErrTable", laid_dynamo_api_ErrTable), ("dynamo/api.ErrConfig", laid_dynamo_api_ErrConfig), ("dynamo/api.ErrNone", laid_dynamo_api_ErrNone)], narrowed := true }
def SensorSaysUptoSaid : Prop := sensorSaysUptoRow.holds Tryd.pinned (OpenSpec.upto sensorSaysSpec)

/-- 'dynamolaw7.SensorBack', WHERE WHAT IT READS IS OF BULK AT MOST 1048576: true; the input reads as it did. -/
def sensorBackUptoRow : OpenClaim := { program := "ytiiomiekjlggfaadoor", sum := "ba033bb52a52ad636841779e20a190370b4c01ef00228453734f5689a7611ad9", func := "dynamo/dynamolaw7.SensorBack", spec := "sensorBack", named := ["dynamo/api.ErrRange", "dynamo/api.ErrShort", "dynamo/api.ErrLong", "dynamo/api.ErrSum", "dynamo/api.ErrTable", "dynamo/api.ErrConfig", "dynamo/api.ErrNone"], apart := false, laid := [("dynamo/api.ErrRange", laid_dynamo_api_ErrRange), ("dynamo/api.ErrLong", laid_dynamo_api_ErrLong), ("dynamo/api.ErrShort", laid_dynamo_api_ErrShort), ("dynamo/api.ErrSum", laid_dynamo_api_ErrSum), ("dynamo/api.ErrTable", laid_dynamo_api_ErrTable), ("dynamo/api.ErrConfig", laid_dynamo_api_ErrConfig), ("dynamo/api.ErrNone", laid_dynamo_api_ErrNone)], narrowed := true }
def SensorBackUptoSaid : Prop := sensorBackUptoRow.holds Tryd.pinned (OpenSpec.upto sensorBackSpec)

/-- 'dynamolaw7.SensorBodies', WHERE WHAT IT READS IS OF BULK AT MOST 1048576: true; the input reads as it did. -/
def sensorBodiesUptoRow : OpenClaim := { program := "ytiiomiekjlggfaadoor", sum := "ba033bb52a52ad636841779e20a190370b4c01ef00228453734f5689a7611ad9", func := "dynamo/dynamolaw7.SensorBodies", spec := "sensorBodies", named := ["dynamo/api.ErrRange", "dynamo/api.ErrShort", "dynamo/api.ErrLong", "dynamo/api.ErrSum", "dynamo/api.ErrTable", "dynamo/api.ErrConfig", "dynamo/api.ErrNone"], apart := false, laid := [("dynamo/api.ErrRange", laid_dynamo_api_ErrRange), ("dynamo/api.ErrLong", laid_dynamo_api_ErrLong), ("dynamo/api.ErrShort", laid_dynamo_api_ErrShort), ("dynamo/api.ErrSum", laid_dynamo_api_ErrSum), ("dynamo/api.ErrTable", laid_dynamo_api_ErrTable), ("dynamo/api.ErrConfig", laid_dynamo_api_ErrConfig), ("dynamo/api.ErrNone", laid_dynamo_api_ErrNone)], narrowed := true }
def SensorBodiesUptoSaid : Prop := sensorBodiesUptoRow.holds Tryd.pinned (OpenSpec.upto sensorBodiesSpec)

end Rows
end Go.Proofs.YtiiomiekjlggfaaDoor
