/-
  NARROWER THAN 'FOR EVERY INPUT', by the rows' own cells (each row's printed sentence says how): ShedSays: laid · ShedKeeps: laid · ShedRooms: laid · ShedTrips: laid · ShedBacks: laid · ShedLoads: laid · ShedCharges: laid · ConfigSays: laid · ConfigOne: laid · ConfigParts: laid · ConfigBounds: laid.
  DERIVED. THE GIVEN ROWS OF THIS SEAT. 11 by the template 'for every input the law returns true; each argument reads behind the call as it read before'; 0 by the template 'total and deterministic' (their statements: YtbeemfkndpandaaDoorTotals.lean).
  GIVEN WITH THE SEED: the statements are not yours to turn. If you find one false, say at which input.
  Laid BY PROGRAM, IN A SANDBOX (cutbox-rows.mjs): the forced cells as the released guide's own fill.sh prints them over the translation b43c0842216e6343… (all of the seat's roots in one cut). By AI agents, Wed Nov 11 2026. No macro, syntax, notation, axiom, sorry.
-/
import Derived.Test.YtbeemfkndpandaaDoorChecked
import GoSem.Claim
import GoSem.ClaimJoined
import GoSem.ClaimMapViews
import Derived.JoinedTies
import Derived.KernelRfl
namespace Go.Proofs.YtbeemfkndpandaaDoor
/- THE CELL 'sum', in the pinned program and in every row, IS THE sha256 OF THE DUMP (.gsa) THAT YtbeemfkndpandaaDoorProg.lean LOADS. Nothing in Lean hashes anything: it is a label: what it is worth is what the hold of that sum in a sandbox is worth. -/
noncomputable def Tryd.pinned : Pinned := { name := "ytbeemfkndpandaadoor", sum := "b43c0842216e634377f609c6ed26e0c98425c768504d22ae855b8edcc0bb44a4", checked := Tryd.checked }
namespace Rows
def none {H : Type} : Left H := { results := [], args := [] }

/- WHAT THE LISTED PACKAGE-LEVEL VARIABLES READ AS WHEN THE CALL BEGINS. Each datum BY PROGRAM (the guide's laid-datum.mjs) off the statement by which the dump's own 'gosem.cut.vars' lays the variable. In a bare row this is a premise. The card (YtbeemfkndpandaaDoorCards.lean) ties it to the program's text. -/
def laid_dynamo_graph_ends {H : Type} : DataW H := .agg [.agg [.lit (.int .i64 0), .lit (.int .i64 4)], .agg [.lit (.int .i64 1), .lit (.int .i64 4)], .agg [.lit (.int .i64 2), .lit (.int .i64 5)], .agg [.lit (.int .i64 3), .lit (.int .i64 5)], .agg [.lit (.int .i64 4), .lit (.int .i64 5)], .agg [.lit (.int .i64 4), .lit (.int .i64 6)], .agg [.lit (.int .i64 5), .lit (.int .i64 6)]]
def laid_dynamo_api_ErrRange {H : Type} : DataW H := .iface "*errors.errorString" (.ptr (.agg [.lit (.string [97, 32, 110, 117, 109, 98, 101, 114, 32, 111, 117, 116, 32, 111, 102, 32, 105, 116, 115, 32, 114, 97, 110, 103, 101])]))
def laid_dynamo_api_ErrLong {H : Type} : DataW H := .iface "*errors.errorString" (.ptr (.agg [.lit (.string [109, 111, 114, 101, 32, 116, 104, 97, 110, 32, 109, 97, 121, 32, 98, 101])]))
def laid_dynamo_api_ErrShort {H : Type} : DataW H := .iface "*errors.errorString" (.ptr (.agg [.lit (.string [108, 101, 115, 115, 32, 116, 104, 97, 110, 32, 104, 97, 115, 32, 116, 111, 32, 98, 101])]))
def laid_dynamo_api_ErrSum {H : Type} : DataW H := .iface "*errors.errorString" (.ptr (.agg [.lit (.string [97, 32, 115, 117, 109, 32, 116, 104, 97, 116, 32, 100, 111, 101, 115, 32, 110, 111, 116, 32, 102, 105, 116])]))
def laid_dynamo_api_ErrTable {H : Type} : DataW H := .iface "*errors.errorString" (.ptr (.agg [.lit (.string [97, 32, 116, 97, 98, 108, 101, 32, 116, 104, 97, 116, 32, 100, 111, 101, 115, 32, 110, 111, 116, 32, 114, 105, 115, 101])]))
def laid_dynamo_api_ErrConfig {H : Type} : DataW H := .iface "*errors.errorString" (.ptr (.agg [.lit (.string [97, 32, 99, 111, 110, 102, 105, 103, 117, 114, 97, 116, 105, 111, 110, 32, 116, 104, 97, 116, 32, 99, 97, 110, 39, 116, 32, 98, 101])]))
def laid_dynamo_api_ErrNone {H : Type} : DataW H := .iface "*errors.errorString" (.ptr (.agg [.lit (.string [110, 111, 32, 114, 101, 99, 111, 114, 100])]))

/-- 'dynamolaw25.ShedSays': WHATEVER THE INPUT: true; the input reads as it did. -/
def shedSaysSpec : ChangeSpec := { name := "shedSays", fn := fun _ => fun
  | [d1, d2, d3, d4, d5, d6, d7, d8, d9, d10, d11] => { results := [.lit (.bool true)], args := [d1, d2, d3, d4, d5, d6, d7, d8, d9, d10, d11] }
  | _ => none }
def shedSaysRow : OpenClaim := { program := "ytbeemfkndpandaadoor", sum := "b43c0842216e634377f609c6ed26e0c98425c768504d22ae855b8edcc0bb44a4", func := "dynamo/dynamolaw25.ShedSays", spec := "shedSays", unfollowed := true, recurses := true, named := ["dynamo/graph.ends"], apart := false, laid := [("dynamo/graph.ends", laid_dynamo_graph_ends)] }
def ShedSaysSaid : Prop := shedSaysRow.holds Tryd.pinned (OpenSpec.ofChange shedSaysSpec)

/-- ITS FALSE NEIGHBOUR: 'it returns false'. Refute it at one input. -/
def shedSaysWrong : ChangeSpec := { name := "shedSays", fn := fun _ => fun
  | [d1, d2, d3, d4, d5, d6, d7, d8, d9, d10, d11] => { results := [.lit (.bool false)], args := [d1, d2, d3, d4, d5, d6, d7, d8, d9, d10, d11] }
  | _ => none }
def ShedSaysWrongFalsely : Prop := shedSaysRow.holds Tryd.pinned (OpenSpec.ofChange shedSaysWrong)

/-- 'dynamolaw25.ShedKeeps': WHATEVER THE INPUT: true; the input reads as it did. -/
def shedKeepsSpec : ChangeSpec := { name := "shedKeeps", fn := fun _ => fun
  | [d1, d2, d3, d4] => { results := [.lit (.bool true)], args := [d1, d2, d3, d4] }
  | _ => none }
def shedKeepsRow : OpenClaim := { program := "ytbeemfkndpandaadoor", sum := "b43c0842216e634377f609c6ed26e0c98425c768504d22ae855b8edcc0bb44a4", func := "dynamo/dynamolaw25.ShedKeeps", spec := "shedKeeps", unfollowed := true, recurses := true, named := ["dynamo/graph.ends"], apart := false, laid := [("dynamo/graph.ends", laid_dynamo_graph_ends)] }
def ShedKeepsSaid : Prop := shedKeepsRow.holds Tryd.pinned (OpenSpec.ofChange shedKeepsSpec)

/-- ITS FALSE NEIGHBOUR: 'it returns false'. Refute it at one input. -/
def shedKeepsWrong : ChangeSpec := { name := "shedKeeps", fn := fun _ => fun
  | [d1, d2, d3, d4] => { results := [.lit (.bool false)], args := [d1, d2, d3, d4] }
  | _ => none }
def ShedKeepsWrongFalsely : Prop := shedKeepsRow.holds Tryd.pinned (OpenSpec.ofChange shedKeepsWrong)

/-- 'dynamolaw25.ShedRooms': WHATEVER THE INPUT: true; the input reads as it did. -/
def shedRoomsSpec : ChangeSpec := { name := "shedRooms", fn := fun _ => fun
  | [d1, d2, d3, d4, d5, d6] => { results := [.lit (.bool true)], args := [d1, d2, d3, d4, d5, d6] }
  | _ => none }
def shedRoomsRow : OpenClaim := { program := "ytbeemfkndpandaadoor", sum := "b43c0842216e634377f609c6ed26e0c98425c768504d22ae855b8edcc0bb44a4", func := "dynamo/dynamolaw25.ShedRooms", spec := "shedRooms", unfollowed := true, recurses := true, named := ["dynamo/graph.ends"], apart := false, laid := [("dynamo/graph.ends", laid_dynamo_graph_ends)] }
def ShedRoomsSaid : Prop := shedRoomsRow.holds Tryd.pinned (OpenSpec.ofChange shedRoomsSpec)

/-- ITS FALSE NEIGHBOUR: 'it returns false'. Refute it at one input. -/
def shedRoomsWrong : ChangeSpec := { name := "shedRooms", fn := fun _ => fun
  | [d1, d2, d3, d4, d5, d6] => { results := [.lit (.bool false)], args := [d1, d2, d3, d4, d5, d6] }
  | _ => none }
def ShedRoomsWrongFalsely : Prop := shedRoomsRow.holds Tryd.pinned (OpenSpec.ofChange shedRoomsWrong)

/-- 'dynamolaw25.ShedTrips': WHATEVER THE INPUT: true; the input reads as it did. -/
def shedTripsSpec : ChangeSpec := { name := "shedTrips", fn := fun _ => fun
  | [d1, d2, d3, d4, d5] => { results := [.lit (.bool true)], args := [d1, d2, d3, d4, d5] }
  | _ => none }
def shedTripsRow : OpenClaim := { program := "ytbeemfkndpandaadoor", sum := "b43c0842216e634377f609c6ed26e0c98425c768504d22ae855b8edcc0bb44a4", func := "dynamo/dynamolaw25.ShedTrips", spec := "shedTrips", unfollowed := true, recurses := true, named := ["dynamo/graph.ends"], apart := false, laid := [("dynamo/graph.ends", laid_dynamo_graph_ends)] }
def ShedTripsSaid : Prop := shedTripsRow.holds Tryd.pinned (OpenSpec.ofChange shedTripsSpec)

/-- ITS FALSE NEIGHBOUR: 'it returns false'. Refute it at one input. -/
def shedTripsWrong : ChangeSpec := { name := "shedTrips", fn := fun _ => fun
  | [d1, d2, d3, d4, d5] => { results := [.lit (.bool false)], args := [d1, d2, d3, d4, d5] }
  | _ => none }
def ShedTripsWrongFalsely : Prop := shedTripsRow.holds Tryd.pinned (OpenSpec.ofChange shedTripsWrong)

/-- 'dynamolaw25.ShedBacks': WHATEVER THE INPUT: true; the input reads as it did. -/
def shedBacksSpec : ChangeSpec := { name := "shedBacks", fn := fun _ => fun
  | [d1, d2, d3, d4, d5] => { results := [.lit (.bool true)], args := [d1, d2, d3, d4, d5] }
  | _ => none }
def shedBacksRow : OpenClaim := { program := "ytbeemfkndpandaadoor", sum := "b43c0842216e634377f609c6ed26e0c98425c768504d22ae855b8edcc0bb44a4", func := "dynamo/dynamolaw25.ShedBacks", spec := "shedBacks", unfollowed := true, recurses := true, named := ["dynamo/graph.ends"], apart := false, laid := [("dynamo/graph.ends", laid_dynamo_graph_ends)] }
def ShedBacksSaid : Prop := shedBacksRow.holds Tryd.pinned (OpenSpec.ofChange shedBacksSpec)

/-- ITS FALSE NEIGHBOUR: 'it returns false'. Refute it at one input. -/
def shedBacksWrong : ChangeSpec := { name := "shedBacks", fn := fun _ => fun
  | [d1, d2, d3, d4, d5] => { results := [.lit (.bool false)], args := [d1, d2, d3, d4, d5] }
  | _ => none }
def ShedBacksWrongFalsely : Prop := shedBacksRow.holds Tryd.pinned (OpenSpec.ofChange shedBacksWrong)

/-- 'dynamolaw25.ShedLoads': WHATEVER THE INPUT: true; the input reads as it did. -/
def shedLoadsSpec : ChangeSpec := { name := "shedLoads", fn := fun _ => fun
  | [d1, d2, d3, d4, d5] => { results := [.lit (.bool true)], args := [d1, d2, d3, d4, d5] }
  | _ => none }
def shedLoadsRow : OpenClaim := { program := "ytbeemfkndpandaadoor", sum := "b43c0842216e634377f609c6ed26e0c98425c768504d22ae855b8edcc0bb44a4", func := "dynamo/dynamolaw25.ShedLoads", spec := "shedLoads", unfollowed := true, recurses := true, named := ["dynamo/graph.ends"], apart := false, laid := [("dynamo/graph.ends", laid_dynamo_graph_ends)] }
def ShedLoadsSaid : Prop := shedLoadsRow.holds Tryd.pinned (OpenSpec.ofChange shedLoadsSpec)

/-- ITS FALSE NEIGHBOUR: 'it returns false'. Refute it at one input. -/
def shedLoadsWrong : ChangeSpec := { name := "shedLoads", fn := fun _ => fun
  | [d1, d2, d3, d4, d5] => { results := [.lit (.bool false)], args := [d1, d2, d3, d4, d5] }
  | _ => none }
def ShedLoadsWrongFalsely : Prop := shedLoadsRow.holds Tryd.pinned (OpenSpec.ofChange shedLoadsWrong)

/-- 'dynamolaw25.ShedCharges': WHATEVER THE INPUT: true; the input reads as it did. -/
def shedChargesSpec : ChangeSpec := { name := "shedCharges", fn := fun _ => fun
  | [d1, d2, d3, d4] => { results := [.lit (.bool true)], args := [d1, d2, d3, d4] }
  | _ => none }
def shedChargesRow : OpenClaim := { program := "ytbeemfkndpandaadoor", sum := "b43c0842216e634377f609c6ed26e0c98425c768504d22ae855b8edcc0bb44a4", func := "dynamo/dynamolaw25.ShedCharges", spec := "shedCharges", unfollowed := true, recurses := true, named := ["dynamo/graph.ends"], apart := false, laid := [("dynamo/graph.ends", laid_dynamo_graph_ends)] }
def ShedChargesSaid : Prop := shedChargesRow.holds Tryd.pinned (OpenSpec.ofChange shedChargesSpec)

/-- ITS FALSE NEIGHBOUR: 'it returns false'. Refute it at one input. -/
def shedChargesWrong : ChangeSpec := { name := "shedCharges", fn := fun _ => fun
  | [d1, d2, d3, d4] => { results := [.lit (.bool false)], args := [d1, d2, d3, d4] }
  | _ => none }
def ShedChargesWrongFalsely : Prop := shedChargesRow.holds Tryd.pinned (OpenSpec.ofChange shedChargesWrong)

/-- 'dynamolaw27.ConfigSays': WHATEVER THE INPUT: true; the input reads as it did. -/
def configSaysSpec : ChangeSpec := { name := "configSays", fn := fun _ => fun
  | [d1, d2, d3, d4] => { results := [.lit (.bool true)], args := [d1, d2, d3, d4] }
  | _ => none }
def configSaysRow : OpenClaim := { program := "ytbeemfkndpandaadoor", sum := "b43c0842216e634377f609c6ed26e0c98425c768504d22ae855b8edcc0bb44a4", func := "dynamo/dynamolaw27.ConfigSays", spec := "configSays", named := ["dynamo/api.ErrConfig", "dynamo/api.ErrShort", "dynamo/api.ErrLong", "dynamo/api.ErrRange", "dynamo/api.ErrTable", "dynamo/api.ErrSum", "dynamo/api.ErrNone"], apart := false, laid := [("dynamo/api.ErrRange", laid_dynamo_api_ErrRange), ("dynamo/api.ErrLong", laid_dynamo_api_ErrLong), ("dynamo/api.ErrShort", laid_dynamo_api_ErrShort), ("dynamo/api.ErrSum", laid_dynamo_api_ErrSum), ("dynamo/api.ErrTable", laid_dynamo_api_ErrTable), ("dynamo/api.ErrConfig", laid_dynamo_api_ErrConfig), ("dynamo/api.ErrNone", laid_dynamo_api_ErrNone)] }
def ConfigSaysSaid : Prop := configSaysRow.holds Tryd.pinned (OpenSpec.ofChange configSaysSpec)

/-- ITS FALSE NEIGHBOUR: 'it returns false'. Refute it at one input. -/
def configSaysWrong : ChangeSpec := { name := "configSays", fn := fun _ => fun
  | [d1, d2, d3, d4] => { results := [.lit (.bool false)], args := [d1, d2, d3, d4] }
  | _ => none }
def ConfigSaysWrongFalsely : Prop := configSaysRow.holds Tryd.pinned (OpenSpec.ofChange configSaysWrong)

/-- 'dynamolaw27.ConfigOne': WHATEVER THE INPUT: true; the input reads as it did. -/
def configOneSpec : ChangeSpec := { name := "configOne", fn := fun _ => fun
  | [d1, d2, d3, d4, d5] => { results := [.lit (.bool true)], args := [d1, d2, d3, d4, d5] }
  | _ => none }
def configOneRow : OpenClaim := { program := "ytbeemfkndpandaadoor", sum := "b43c0842216e634377f609c6ed26e0c98425c768504d22ae855b8edcc0bb44a4", func := "dynamo/dynamolaw27.ConfigOne", spec := "configOne", named := ["dynamo/api.ErrConfig", "dynamo/api.ErrShort", "dynamo/api.ErrLong", "dynamo/api.ErrRange", "dynamo/api.ErrTable", "dynamo/api.ErrSum", "dynamo/api.ErrNone"], apart := false, laid := [("dynamo/api.ErrRange", laid_dynamo_api_ErrRange), ("dynamo/api.ErrLong", laid_dynamo_api_ErrLong), ("dynamo/api.ErrShort", laid_dynamo_api_ErrShort), ("dynamo/api.ErrSum", laid_dynamo_api_ErrSum), ("dynamo/api.ErrTable", laid_dynamo_api_ErrTable), ("dynamo/api.ErrConfig", laid_dynamo_api_ErrConfig), ("dynamo/api.ErrNone", laid_dynamo_api_ErrNone)] }
def ConfigOneSaid : Prop := configOneRow.holds Tryd.pinned (OpenSpec.ofChange configOneSpec)

/-- ITS FALSE NEIGHBOUR: 'it returns false'. Refute it at one input. -/
def configOneWrong : ChangeSpec := { name := "configOne", fn := fun _ => fun
  | [d1, d2, d3, d4, d5] => { results := [.lit (.bool false)], args := [d1, d2, d3, d4, d5] }
  | _ => none }
def ConfigOneWrongFalsely : Prop := configOneRow.holds Tryd.pinned (OpenSpec.ofChange configOneWrong)

/-- 'dynamolaw27.ConfigParts': WHATEVER THE INPUT: true; the input reads as it did. -/
def configPartsSpec : ChangeSpec := { name := "configParts", fn := fun _ => fun
  | [d1, d2, d3, d4] => { results := [.lit (.bool true)], args := [d1, d2, d3, d4] }
  | _ => none }
def configPartsRow : OpenClaim := { program := "ytbeemfkndpandaadoor", sum := "b43c0842216e634377f609c6ed26e0c98425c768504d22ae855b8edcc0bb44a4", func := "dynamo/dynamolaw27.ConfigParts", spec := "configParts", named := ["dynamo/api.ErrConfig", "dynamo/api.ErrShort", "dynamo/api.ErrLong", "dynamo/api.ErrRange", "dynamo/api.ErrTable", "dynamo/api.ErrSum", "dynamo/api.ErrNone"], apart := false, laid := [("dynamo/api.ErrRange", laid_dynamo_api_ErrRange), ("dynamo/api.ErrLong", laid_dynamo_api_ErrLong), ("dynamo/api.ErrShort", laid_dynamo_api_ErrShort), ("dynamo/api.ErrSum", laid_dynamo_api_ErrSum), ("dynamo/api.ErrTable", laid_dynamo_api_ErrTable), ("dynamo/api.ErrConfig", laid_dynamo_api_ErrConfig), ("dynamo/api.ErrNone", laid_dynamo_api_ErrNone)] }
def ConfigPartsSaid : Prop := configPartsRow.holds Tryd.pinned (OpenSpec.ofChange configPartsSpec)

/-- ITS FALSE NEIGHBOUR: 'it returns false'. Refute it at one input. -/
def configPartsWrong : ChangeSpec := { name := "configParts", fn := fun _ => fun
  | [d1, d2, d3, d4] => { results := [.lit (.bool false)], args := [d1, d2, d3, d4] }
  | _ => none }
def ConfigPartsWrongFalsely : Prop := configPartsRow.holds Tryd.pinned (OpenSpec.ofChange configPartsWrong)

/-- 'dynamolaw27.ConfigBounds': WHATEVER THE INPUT: true; the input reads as it did. -/
def configBoundsSpec : ChangeSpec := { name := "configBounds", fn := fun _ => fun
  | [d1, d2, d3] => { results := [.lit (.bool true)], args := [d1, d2, d3] }
  | _ => none }
def configBoundsRow : OpenClaim := { program := "ytbeemfkndpandaadoor", sum := "b43c0842216e634377f609c6ed26e0c98425c768504d22ae855b8edcc0bb44a4", func := "dynamo/dynamolaw27.ConfigBounds", spec := "configBounds", named := ["dynamo/api.ErrConfig", "dynamo/api.ErrShort", "dynamo/api.ErrLong", "dynamo/api.ErrRange", "dynamo/api.ErrTable", "dynamo/api.ErrSum", "dynamo/api.ErrNone"], apart := false, laid := [("dynamo/api.ErrRange", laid_dynamo_api_ErrRange), ("dynamo/api.ErrLong", laid_dynamo_api_ErrLong), ("dynamo/api.ErrShort", laid_dynamo_api_ErrShort), ("dynamo/api.ErrSum", laid_dynamo_api_ErrSum), ("dynamo/api.ErrTable", laid_dynamo_api_ErrTable), ("dynamo/api.ErrConfig", laid_dynamo_api_ErrConfig), ("dynamo/api.ErrNone", laid_dynamo_api_ErrNone)] }
def ConfigBoundsSaid : Prop := configBoundsRow.holds Tryd.pinned (OpenSpec.ofChange configBoundsSpec)

/-- ITS FALSE NEIGHBOUR: 'it returns false'. Refute it at one input. -/
def configBoundsWrong : ChangeSpec := { name := "configBounds", fn := fun _ => fun
  | [d1, d2, d3] => { results := [.lit (.bool false)], args := [d1, d2, d3] }
  | _ => none }
def ConfigBoundsWrongFalsely : Prop := configBoundsRow.holds Tryd.pinned (OpenSpec.ofChange configBoundsWrong)

/- THE SECOND FORM. 'bulk': how many values and letters a reading holds, each counted each time it is reached (what is shared counts as often as it is met; a slice's spare places count too). A statement '..UptoSaid' is the law's where the arguments, and the package variables that the reading takes, are together of bulk at most 1048576: NARROWER than '..Said'. Prove '..Said' where nothing that the law and all that it calls make is longer than what came in: it says more and counts as full. Else prove '..UptoSaid'. A law counts once. -/
mutual
def uptoBulk {H : Type} : DataW H → Nat
  | .lit (.string bytes) => bytes.length + 1
  | .lit _ => 1
  | .nil => 1
  | .ptr d => uptoBulk d + 1
  | .slice elems spare => uptoBulkAll elems + uptoBulkAll spare + 1
  | .agg parts => uptoBulkAll parts + 1
  | .iface _ d => uptoBulk d + 1
  | .map entries => uptoBulkEntries entries + 1
  | .held _ => 1
def uptoBulkAll {H : Type} : List (DataW H) → Nat
  | [] => 0
  | d :: r => uptoBulk d + uptoBulkAll r
def uptoBulkEntries {H : Type} : List (Lit × DataW H) → Nat
  | [] => 0
  | x :: r => uptoBulkEntry x + uptoBulkEntries r
def uptoBulkEntry {H : Type} : Lit × DataW H → Nat
  | (.string bytes, d) => bytes.length + uptoBulk d + 1
  | (_, d) => uptoBulk d + 1
 end
def uptoSmall : (H : Type) → List (DataW H) → Bool := fun _ ds => decide (uptoBulkAll ds ≤ 1048576)
def OpenSpec.upto (s : _root_.Go.ChangeSpec) : _root_.Go.OpenSpec := { _root_.Go.OpenSpec.ofChange s with cond := some uptoSmall }

/-- 'dynamolaw25.ShedSays', WHERE WHAT IT READS IS OF BULK AT MOST 1048576: true; the input reads as it did. -/
def shedSaysUptoRow : OpenClaim := { program := "ytbeemfkndpandaadoor", sum := "b43c0842216e634377f609c6ed26e0c98425c768504d22ae855b8edcc0bb44a4", func := "dynamo/dynamolaw25.ShedSays", spec := "shedSays", unfollowed := true, recurses := true, named := ["dynamo/graph.ends"], apart := false, laid := [("dynamo/graph.ends", laid_dynamo_graph_ends)], narrowed := true }
def ShedSaysUptoSaid : Prop := shedSaysUptoRow.holds Tryd.pinned (OpenSpec.upto shedSaysSpec)

/-- 'dynamolaw25.ShedKeeps', WHERE WHAT IT READS IS OF BULK AT MOST 1048576: true; the input reads as it did. -/
def shedKeepsUptoRow : OpenClaim := { program := "ytbeemfkndpandaadoor", sum := "b43c0842216e634377f609c6ed26e0c98425c768504d22ae855b8edcc0bb44a4", func := "dynamo/dynamolaw25.ShedKeeps", spec := "shedKeeps", unfollowed := true, recurses := true, named := ["dynamo/graph.ends"], apart := false, laid := [("dynamo/graph.ends", laid_dynamo_graph_ends)], narrowed := true }
def ShedKeepsUptoSaid : Prop := shedKeepsUptoRow.holds Tryd.pinned (OpenSpec.upto shedKeepsSpec)

/-- 'dynamolaw25.ShedRooms', WHERE WHAT IT READS IS OF BULK AT MOST 1048576: true; the input reads as it did. -/
def shedRoomsUptoRow : OpenClaim := { program := "ytbeemfkndpandaadoor", sum := "b43c0842216e634377f609c6ed26e0c98425c768504d22ae855b8edcc0bb44a4", func := "dynamo/dynamolaw25.ShedRooms", spec := "shedRooms", unfollowed := true, recurses := true, named := ["dynamo/graph.ends"], apart := false, laid := [("dynamo/graph.ends", laid_dynamo_graph_ends)], narrowed := true }
def ShedRoomsUptoSaid : Prop := shedRoomsUptoRow.holds Tryd.pinned (OpenSpec.upto shedRoomsSpec)

/-- 'dynamolaw25.ShedTrips', WHERE WHAT IT READS IS OF BULK AT MOST 1048576: true; the input reads as it did. -/
def shedTripsUptoRow : OpenClaim := { program := "ytbeemfkndpandaadoor", sum := "b43c0842216e634377f609c6ed26e0c98425c768504d22ae855b8edcc0bb44a4", func := "dynamo/dynamolaw25.ShedTrips", spec := "shedTrips", unfollowed := true, recurses := true, named := ["dynamo/graph.ends"], apart := false, laid := [("dynamo/graph.ends", laid_dynamo_graph_ends)], narrowed := true }
def ShedTripsUptoSaid : Prop := shedTripsUptoRow.holds Tryd.pinned (OpenSpec.upto shedTripsSpec)

/-- 'dynamolaw25.ShedBacks', WHERE WHAT IT READS IS OF BULK AT MOST 1048576: true; the input reads as it did. -/
def shedBacksUptoRow : OpenClaim := { program := "ytbeemfkndpandaadoor", sum := "b43c0842216e634377f609c6ed26e0c98425c768504d22ae855b8edcc0bb44a4", func := "dynamo/dynamolaw25.ShedBacks", spec := "shedBacks", unfollowed := true, recurses := true, named := ["dynamo/graph.ends"], apart := false, laid := [("dynamo/graph.ends", laid_dynamo_graph_ends)], narrowed := true }
def ShedBacksUptoSaid : Prop := shedBacksUptoRow.holds Tryd.pinned (OpenSpec.upto shedBacksSpec)

/-- 'dynamolaw25.ShedLoads', WHERE WHAT IT READS IS OF BULK AT MOST 1048576: true; the input reads as it did. -/
def shedLoadsUptoRow : OpenClaim := { program := "ytbeemfkndpandaadoor", sum := "b43c0842216e634377f609c6ed26e0c98425c768504d22ae855b8edcc0bb44a4", func := "dynamo/dynamolaw25.ShedLoads", spec := "shedLoads", unfollowed := true, recurses := true, named := ["dynamo/graph.ends"], apart := false, laid := [("dynamo/graph.ends", laid_dynamo_graph_ends)], narrowed := true }
def ShedLoadsUptoSaid : Prop := shedLoadsUptoRow.holds Tryd.pinned (OpenSpec.upto shedLoadsSpec)

/-- 'dynamolaw25.ShedCharges', WHERE WHAT IT READS IS OF BULK AT MOST 1048576: true; the input reads as it did. -/
def shedChargesUptoRow : OpenClaim := { program := "ytbeemfkndpandaadoor", sum := "b43c0842216e634377f609c6ed26e0c98425c768504d22ae855b8edcc0bb44a4", func := "dynamo/dynamolaw25.ShedCharges", spec := "shedCharges", unfollowed := true, recurses := true, named := ["dynamo/graph.ends"], apart := false, laid := [("dynamo/graph.ends", laid_dynamo_graph_ends)], narrowed := true }
def ShedChargesUptoSaid : Prop := shedChargesUptoRow.holds Tryd.pinned (OpenSpec.upto shedChargesSpec)

/-- 'dynamolaw27.ConfigSays', WHERE WHAT IT READS IS OF BULK AT MOST 1048576: true; the input reads as it did. -/
def configSaysUptoRow : OpenClaim := { program := "ytbeemfkndpandaadoor", sum := "b43c0842216e634377f609c6ed26e0c98425c768504d22ae855b8edcc0bb44a4", func := "dynamo/dynamolaw27.ConfigSays", spec := "configSays", named := ["dynamo/api.ErrConfig", "dynamo/api.ErrShort", "dynamo/api.ErrLong", "dynamo/api.ErrRange", "dynamo/api.ErrTable", "dynamo/api.ErrSum", "dynamo/api.ErrNone"], apart := false, laid := [("dynamo/api.ErrRange", laid_dynamo_api_ErrRange), ("dynamo/api.ErrLong", laid_dynamo_api_ErrLong), ("dynamo/api.ErrShort", laid_dynamo_api_ErrShort), ("dynamo/api.ErrSum", laid_dynamo_api_ErrSum), ("dynamo/api.ErrTable", laid_dynamo_api_ErrTable), ("dynamo/api.ErrConfig", laid_dynamo_api_ErrConfig), ("dynamo/api.ErrNone", laid_dynamo_api_ErrNone)], narrowed := true }
def ConfigSaysUptoSaid : Prop := configSaysUptoRow.holds Tryd.pinned (OpenSpec.upto configSaysSpec)

/-- 'dynamolaw27.ConfigOne', WHERE WHAT IT READS IS OF BULK AT MOST 1048576: true; the input reads as it did. -/
def configOneUptoRow : OpenClaim := { program := "ytbeemfkndpandaadoor", sum := "b43c0842216e634377f609c6ed26e0c98425c768504d22ae855b8edcc0bb44a4", func := "dynamo/dynamolaw27.ConfigOne", spec := "configOne", named := ["dynamo/api.ErrConfig", "dynamo/api.ErrShort", "dynamo/api.ErrLong", "dynamo/api.ErrRange", "dynamo/api.ErrTable", "dynamo/api.ErrSum", "dynamo/api.ErrNone"], apart := false, laid := [("dynamo/api.ErrRange", laid_dynamo_api_ErrRange), ("dynamo/api.ErrLong", laid_dynamo_api_ErrLong), ("dynamo/api.ErrShort", laid_dynamo_api_ErrShort), ("dynamo/api.ErrSum", laid_dynamo_api_ErrSum), ("dynamo/api.ErrTable", laid_dynamo_api_ErrTable), ("dynamo/api.ErrConfig", laid_dynamo_api_ErrConfig), ("dynamo/api.ErrNone", laid_dynamo_api_ErrNone)], narrowed := true }
def ConfigOneUptoSaid : Prop := configOneUptoRow.holds Tryd.pinned (OpenSpec.upto configOneSpec)

/-- 'dynamolaw27.ConfigParts', WHERE WHAT IT READS IS OF BULK AT MOST 1048576: true; the input reads as it did. -/
def configPartsUptoRow : OpenClaim := { program := "ytbeemfkndpandaadoor", sum := "b43c0842216e634377f609c6ed26e0c98425c768504d22ae855b8edcc0bb44a4", func := "dynamo/dynamolaw27.ConfigParts", spec := "configParts", named := ["dynamo/api.ErrConfig", "dynamo/api.ErrShort", "dynamo/api.ErrLong", "dynamo/api.ErrRange", "dynamo/api.ErrTable", "dynamo/api.ErrSum", "dynamo/api.ErrNone"], apart := false, laid := [("dynamo/api.ErrRange", laid_dynamo_api_ErrRange), ("dynamo/api.ErrLong", laid_dynamo_api_ErrLong), ("dynamo/api.ErrShort", laid_dynamo_api_ErrShort), ("dynamo/api.ErrSum", laid_dynamo_api_ErrSum), ("dynamo/api.ErrTable", laid_dynamo_api_ErrTable), ("dynamo/api.ErrConfig", laid_dynamo_api_ErrConfig), ("dynamo/api.ErrNone", laid_dynamo_api_ErrNone)], narrowed := true }
def ConfigPartsUptoSaid : Prop := configPartsUptoRow.holds Tryd.pinned (OpenSpec.upto configPartsSpec)

/-- 'dynamolaw27.ConfigBounds', WHERE WHAT IT READS IS OF BULK AT MOST 1048576: true; the input reads as it did. -/
def configBoundsUptoRow : OpenClaim := { program := "ytbeemfkndpandaadoor", sum := "b43c0842216e634377f609c6ed26e0c98425c768504d22ae855b8edcc0bb44a4", func := "dynamo/dynamolaw27.ConfigBounds", spec := "configBounds", named := ["dynamo/api.ErrConfig", "dynamo/api.ErrShort", "dynamo/api.ErrLong", "dynamo/api.ErrRange", "dynamo/api.ErrTable", "dynamo/api.ErrSum", "dynamo/api.ErrNone"], apart := false, laid := [("dynamo/api.ErrRange", laid_dynamo_api_ErrRange), ("dynamo/api.ErrLong", laid_dynamo_api_ErrLong), ("dynamo/api.ErrShort", laid_dynamo_api_ErrShort), ("dynamo/api.ErrSum", laid_dynamo_api_ErrSum), ("dynamo/api.ErrTable", laid_dynamo_api_ErrTable), ("dynamo/api.ErrConfig", laid_dynamo_api_ErrConfig), ("dynamo/api.ErrNone", laid_dynamo_api_ErrNone)], narrowed := true }
def ConfigBoundsUptoSaid : Prop := configBoundsUptoRow.holds Tryd.pinned (OpenSpec.upto configBoundsSpec)

end Rows
end Go.Proofs.YtbeemfkndpandaaDoor
