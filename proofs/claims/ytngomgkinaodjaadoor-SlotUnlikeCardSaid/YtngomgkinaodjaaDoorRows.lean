/-
  NARROWER THAN 'FOR EVERY INPUT', by the rows' own cells (each row's printed sentence says how): FrameSays: laid · FrameRows: laid · FrameTurned: laid · FrameTwice: laid · FrameLong: laid · SlotSays: laid · SlotBack: laid · SlotBounds: laid · SlotUnlike: laid.
  DERIVED. THE GIVEN ROWS OF THIS SEAT. 9 by the template 'for every input the law returns true; each argument reads behind the call as it read before'; 0 by the template 'total and deterministic' (their statements: YtngomgkinaodjaaDoorTotals.lean).
  GIVEN WITH THE SEED: the statements are not yours to turn. If you find one false, say at which input.
  Laid BY PROGRAM, IN A SANDBOX (cutbox-rows.mjs): the forced cells as the released guide's own fill.sh prints them over the translation d85110252f55a568… (all of the seat's roots in one cut). By AI agents, Wed Nov 11 2026. No macro, syntax, notation, axiom, sorry.
-/
import Derived.Test.YtngomgkinaodjaaDoorChecked
import GoSem.Claim
import GoSem.ClaimJoined
import GoSem.ClaimMapViews
import Derived.JoinedTies
import Derived.KernelRfl
namespace Go.Proofs.YtngomgkinaodjaaDoor
/- THE CELL 'sum', in the pinned program and in every row, IS THE sha256 OF THE DUMP (.gsa) THAT YtngomgkinaodjaaDoorProg.lean LOADS. Nothing in Lean hashes anything: it is a label: what it is worth is what the hold of that sum in a sandbox is worth. -/
noncomputable def Tryd.pinned : Pinned := { name := "ytngomgkinaodjaadoor", sum := "d85110252f55a568ab07402b8cda4599c6cc89e335e641163c4403f8a0339af3", checked := Tryd.checked }
namespace Rows
def none {H : Type} : Left H := { results := [], args := [] }

/- WHAT THE LISTED PACKAGE-LEVEL VARIABLES READ AS WHEN THE CALL BEGINS. Each datum BY PROGRAM (the guide's laid-datum.mjs) off the statement by which the dump's own 'gosem.cut.vars' lays the variable. In a bare row this is a premise. The card (YtngomgkinaodjaaDoorCards.lean) ties it to the program's text. -/
def laid_dynamo_api_ErrRange {H : Type} : DataW H := .iface "*errors.errorString" (.ptr (.agg [.lit (.string [97, 32, 110, 117, 109, 98, 101, 114, 32, 111, 117, 116, 32, 111, 102, 32, 105, 116, 115, 32, 114, 97, 110, 103, 101])]))
def laid_dynamo_api_ErrLong {H : Type} : DataW H := .iface "*errors.errorString" (.ptr (.agg [.lit (.string [109, 111, 114, 101, 32, 116, 104, 97, 110, 32, 109, 97, 121, 32, 98, 101])]))
def laid_dynamo_api_ErrShort {H : Type} : DataW H := .iface "*errors.errorString" (.ptr (.agg [.lit (.string [108, 101, 115, 115, 32, 116, 104, 97, 110, 32, 104, 97, 115, 32, 116, 111, 32, 98, 101])]))
def laid_dynamo_api_ErrSum {H : Type} : DataW H := .iface "*errors.errorString" (.ptr (.agg [.lit (.string [97, 32, 115, 117, 109, 32, 116, 104, 97, 116, 32, 100, 111, 101, 115, 32, 110, 111, 116, 32, 102, 105, 116])]))
def laid_dynamo_api_ErrTable {H : Type} : DataW H := .iface "*errors.errorString" (.ptr (.agg [.lit (.string [97, 32, 116, 97, 98, 108, 101, 32, 116, 104, 97, 116, 32, 100, 111, 101, 115, 32, 110, 111, 116, 32, 114, 105, 115, 101])]))
def laid_dynamo_api_ErrConfig {H : Type} : DataW H := .iface "*errors.errorString" (.ptr (.agg [.lit (.string [97, 32, 99, 111, 110, 102, 105, 103, 117, 114, 97, 116, 105, 111, 110, 32, 116, 104, 97, 116, 32, 99, 97, 110, 39, 116, 32, 98, 101])]))
def laid_dynamo_api_ErrNone {H : Type} : DataW H := .iface "*errors.errorString" (.ptr (.agg [.lit (.string [110, 111, 32, 114, 101, 99, 111, 114, 100])]))

/-- 'dynamolaw6.FrameSays': WHATEVER THE INPUT: true; the input reads as it did. -/
def frameSaysSpec : ChangeSpec := { name := "frameSays", fn := fun _ => fun
  | [d1, d2] => { results := [.lit (.bool true)], args := [d1, d2] }
  | _ => none }
def frameSaysRow : OpenClaim := { program := "ytngomgkinaodjaadoor", sum := "d85110252f55a568ab07402b8cda4599c6cc89e335e641163c4403f8a0339af3", func := "dynamo/dynamolaw6.FrameSays", spec := "frameSays", named := ["dynamo/api.ErrLong", "dynamo/api.ErrRange", "dynamo/api.ErrShort", "dynamo/api.ErrSum", "dynamo/api.ErrTable", "dynamo/api.ErrConfig", "dynamo/api.ErrNone"], apart := false, laid := [("dynamo/api.ErrRange", laid_dynamo_api_ErrRange), ("dynamo/api.ErrLong", laid_dynamo_api_ErrLong), ("dynamo/api.ErrShort", laid_dynamo_api_ErrShort), ("dynamo/api.ErrSum", laid_dynamo_api_ErrSum), ("dynamo/api.ErrTable", laid_dynamo_api_ErrTable), ("dynamo/api.ErrConfig", laid_dynamo_api_ErrConfig), ("dynamo/api.ErrNone", laid_dynamo_api_ErrNone)] }
def FrameSaysSaid : Prop := frameSaysRow.holds Tryd.pinned (OpenSpec.ofChange frameSaysSpec)

/-- ITS FALSE NEIGHBOUR: 'it returns false'. Refute it at one input. -/
def frameSaysWrong : ChangeSpec := { name := "frameSays", fn := fun _ => fun
  | [d1, d2] => { results := [.lit (.bool false)], args := [d1, d2] }
  | _ => none }
def FrameSaysWrongFalsely : Prop := frameSaysRow.holds Tryd.pinned (OpenSpec.ofChange frameSaysWrong)

/-- 'dynamolaw6.FrameRows': WHATEVER THE INPUT: true; the input reads as it did. -/
def frameRowsSpec : ChangeSpec := { name := "frameRows", fn := fun _ => fun
  | [d1, d2] => { results := [.lit (.bool true)], args := [d1, d2] }
  | _ => none }
def frameRowsRow : OpenClaim := { program := "ytngomgkinaodjaadoor", sum := "d85110252f55a568ab07402b8cda4599c6cc89e335e641163c4403f8a0339af3", func := "dynamo/dynamolaw6.FrameRows", spec := "frameRows", named := ["dynamo/api.ErrLong"], apart := false, laid := [("dynamo/api.ErrLong", laid_dynamo_api_ErrLong)] }
def FrameRowsSaid : Prop := frameRowsRow.holds Tryd.pinned (OpenSpec.ofChange frameRowsSpec)

/-- ITS FALSE NEIGHBOUR: 'it returns false'. Refute it at one input. -/
def frameRowsWrong : ChangeSpec := { name := "frameRows", fn := fun _ => fun
  | [d1, d2] => { results := [.lit (.bool false)], args := [d1, d2] }
  | _ => none }
def FrameRowsWrongFalsely : Prop := frameRowsRow.holds Tryd.pinned (OpenSpec.ofChange frameRowsWrong)

/-- 'dynamolaw6.FrameTurned': WHATEVER THE INPUT: true; the input reads as it did. -/
def frameTurnedSpec : ChangeSpec := { name := "frameTurned", fn := fun _ => fun
  | [d1, d2] => { results := [.lit (.bool true)], args := [d1, d2] }
  | _ => none }
def frameTurnedRow : OpenClaim := { program := "ytngomgkinaodjaadoor", sum := "d85110252f55a568ab07402b8cda4599c6cc89e335e641163c4403f8a0339af3", func := "dynamo/dynamolaw6.FrameTurned", spec := "frameTurned", named := ["dynamo/api.ErrLong"], apart := false, laid := [("dynamo/api.ErrLong", laid_dynamo_api_ErrLong)] }
def FrameTurnedSaid : Prop := frameTurnedRow.holds Tryd.pinned (OpenSpec.ofChange frameTurnedSpec)

/-- ITS FALSE NEIGHBOUR: 'it returns false'. Refute it at one input. -/
def frameTurnedWrong : ChangeSpec := { name := "frameTurned", fn := fun _ => fun
  | [d1, d2] => { results := [.lit (.bool false)], args := [d1, d2] }
  | _ => none }
def FrameTurnedWrongFalsely : Prop := frameTurnedRow.holds Tryd.pinned (OpenSpec.ofChange frameTurnedWrong)

/-- 'dynamolaw6.FrameTwice': WHATEVER THE INPUT: true; the input reads as it did. -/
def frameTwiceSpec : ChangeSpec := { name := "frameTwice", fn := fun _ => fun
  | [d1, d2] => { results := [.lit (.bool true)], args := [d1, d2] }
  | _ => none }
def frameTwiceRow : OpenClaim := { program := "ytngomgkinaodjaadoor", sum := "d85110252f55a568ab07402b8cda4599c6cc89e335e641163c4403f8a0339af3", func := "dynamo/dynamolaw6.FrameTwice", spec := "frameTwice", named := ["dynamo/api.ErrLong"], apart := false, laid := [("dynamo/api.ErrLong", laid_dynamo_api_ErrLong)] }
def FrameTwiceSaid : Prop := frameTwiceRow.holds Tryd.pinned (OpenSpec.ofChange frameTwiceSpec)

/-- ITS FALSE NEIGHBOUR: 'it returns false'. Refute it at one input. -/
def frameTwiceWrong : ChangeSpec := { name := "frameTwice", fn := fun _ => fun
  | [d1, d2] => { results := [.lit (.bool false)], args := [d1, d2] }
  | _ => none }
def FrameTwiceWrongFalsely : Prop := frameTwiceRow.holds Tryd.pinned (OpenSpec.ofChange frameTwiceWrong)

/-- 'dynamolaw6.FrameLong': WHATEVER THE INPUT: true; the input reads as it did. -/
def frameLongSpec : ChangeSpec := { name := "frameLong", fn := fun _ => fun
  | [d1, d2, d3, d4] => { results := [.lit (.bool true)], args := [d1, d2, d3, d4] }
  | _ => none }
def frameLongRow : OpenClaim := { program := "ytngomgkinaodjaadoor", sum := "d85110252f55a568ab07402b8cda4599c6cc89e335e641163c4403f8a0339af3", func := "dynamo/dynamolaw6.FrameLong", spec := "frameLong", named := ["dynamo/api.ErrLong"], apart := false, laid := [("dynamo/api.ErrLong", laid_dynamo_api_ErrLong)] }
def FrameLongSaid : Prop := frameLongRow.holds Tryd.pinned (OpenSpec.ofChange frameLongSpec)

/-- ITS FALSE NEIGHBOUR: 'it returns false'. Refute it at one input. -/
def frameLongWrong : ChangeSpec := { name := "frameLong", fn := fun _ => fun
  | [d1, d2, d3, d4] => { results := [.lit (.bool false)], args := [d1, d2, d3, d4] }
  | _ => none }
def FrameLongWrongFalsely : Prop := frameLongRow.holds Tryd.pinned (OpenSpec.ofChange frameLongWrong)

/-- 'dynamolaw11.SlotSays': WHATEVER THE INPUT: true; the input reads as it did. -/
def slotSaysSpec : ChangeSpec := { name := "slotSays", fn := fun _ => fun
  | [d1, d2] => { results := [.lit (.bool true)], args := [d1, d2] }
  | _ => none }
def slotSaysRow : OpenClaim := { program := "ytngomgkinaodjaadoor", sum := "d85110252f55a568ab07402b8cda4599c6cc89e335e641163c4403f8a0339af3", func := "dynamo/dynamolaw11.SlotSays", spec := "slotSays", named := ["dynamo/api.ErrShort", "dynamo/api.ErrLong", "dynamo/api.ErrNone", "dynamo/api.ErrSum", "dynamo/api.ErrRange", "dynamo/api.ErrTable", "dynamo/api.ErrConfig"], apart := false, laid := [("dynamo/api.ErrRange", laid_dynamo_api_ErrRange), ("dynamo/api.ErrLong", laid_dynamo_api_ErrLong), ("dynamo/api.ErrShort", laid_dynamo_api_ErrShort), ("dynamo/api.ErrSum", laid_dynamo_api_ErrSum), ("dynamo/api.ErrTable", laid_dynamo_api_ErrTable), ("dynamo/api.ErrConfig", laid_dynamo_api_ErrConfig), ("dynamo/api.ErrNone", laid_dynamo_api_ErrNone)] }
def SlotSaysSaid : Prop := slotSaysRow.holds Tryd.pinned (OpenSpec.ofChange slotSaysSpec)

/-- ITS FALSE NEIGHBOUR: 'it returns false'. Refute it at one input. -/
def slotSaysWrong : ChangeSpec := { name := "slotSays", fn := fun _ => fun
  | [d1, d2] => { results := [.lit (.bool false)], args := [d1, d2] }
  | _ => none }
def SlotSaysWrongFalsely : Prop := slotSaysRow.holds Tryd.pinned (OpenSpec.ofChange slotSaysWrong)

/-- 'dynamolaw11.SlotBack': WHATEVER THE INPUT: true; the input reads as it did. -/
def slotBackSpec : ChangeSpec := { name := "slotBack", fn := fun _ => fun
  | [d1, d2, d3, d4, d5, d6, d7, d8] => { results := [.lit (.bool true)], args := [d1, d2, d3, d4, d5, d6, d7, d8] }
  | _ => none }
def slotBackRow : OpenClaim := { program := "ytngomgkinaodjaadoor", sum := "d85110252f55a568ab07402b8cda4599c6cc89e335e641163c4403f8a0339af3", func := "dynamo/dynamolaw11.SlotBack", spec := "slotBack", named := ["dynamo/api.ErrShort", "dynamo/api.ErrLong", "dynamo/api.ErrNone", "dynamo/api.ErrSum", "dynamo/api.ErrRange", "dynamo/api.ErrTable", "dynamo/api.ErrConfig"], apart := false, laid := [("dynamo/api.ErrRange", laid_dynamo_api_ErrRange), ("dynamo/api.ErrLong", laid_dynamo_api_ErrLong), ("dynamo/api.ErrShort", laid_dynamo_api_ErrShort), ("dynamo/api.ErrSum", laid_dynamo_api_ErrSum), ("dynamo/api.ErrTable", laid_dynamo_api_ErrTable), ("dynamo/api.ErrConfig", laid_dynamo_api_ErrConfig), ("dynamo/api.ErrNone", laid_dynamo_api_ErrNone)] }
def SlotBackSaid : Prop := slotBackRow.holds Tryd.pinned (OpenSpec.ofChange slotBackSpec)

/-- ITS FALSE NEIGHBOUR: 'it returns false'. Refute it at one input. -/
def slotBackWrong : ChangeSpec := { name := "slotBack", fn := fun _ => fun
  | [d1, d2, d3, d4, d5, d6, d7, d8] => { results := [.lit (.bool false)], args := [d1, d2, d3, d4, d5, d6, d7, d8] }
  | _ => none }
def SlotBackWrongFalsely : Prop := slotBackRow.holds Tryd.pinned (OpenSpec.ofChange slotBackWrong)

/-- 'dynamolaw11.SlotBounds': WHATEVER THE INPUT: true; the input reads as it did. -/
def slotBoundsSpec : ChangeSpec := { name := "slotBounds", fn := fun _ => fun
  | [d1, d2] => { results := [.lit (.bool true)], args := [d1, d2] }
  | _ => none }
def slotBoundsRow : OpenClaim := { program := "ytngomgkinaodjaadoor", sum := "d85110252f55a568ab07402b8cda4599c6cc89e335e641163c4403f8a0339af3", func := "dynamo/dynamolaw11.SlotBounds", spec := "slotBounds", named := ["dynamo/api.ErrShort", "dynamo/api.ErrLong", "dynamo/api.ErrNone", "dynamo/api.ErrSum", "dynamo/api.ErrRange", "dynamo/api.ErrTable", "dynamo/api.ErrConfig"], apart := false, laid := [("dynamo/api.ErrRange", laid_dynamo_api_ErrRange), ("dynamo/api.ErrLong", laid_dynamo_api_ErrLong), ("dynamo/api.ErrShort", laid_dynamo_api_ErrShort), ("dynamo/api.ErrSum", laid_dynamo_api_ErrSum), ("dynamo/api.ErrTable", laid_dynamo_api_ErrTable), ("dynamo/api.ErrConfig", laid_dynamo_api_ErrConfig), ("dynamo/api.ErrNone", laid_dynamo_api_ErrNone)] }
def SlotBoundsSaid : Prop := slotBoundsRow.holds Tryd.pinned (OpenSpec.ofChange slotBoundsSpec)

/-- ITS FALSE NEIGHBOUR: 'it returns false'. Refute it at one input. -/
def slotBoundsWrong : ChangeSpec := { name := "slotBounds", fn := fun _ => fun
  | [d1, d2] => { results := [.lit (.bool false)], args := [d1, d2] }
  | _ => none }
def SlotBoundsWrongFalsely : Prop := slotBoundsRow.holds Tryd.pinned (OpenSpec.ofChange slotBoundsWrong)

/-- 'dynamolaw11.SlotUnlike': WHATEVER THE INPUT: true; the input reads as it did. -/
def slotUnlikeSpec : ChangeSpec := { name := "slotUnlike", fn := fun _ => fun
  | [d1, d2, d3, d4, d5] => { results := [.lit (.bool true)], args := [d1, d2, d3, d4, d5] }
  | _ => none }
def slotUnlikeRow : OpenClaim := { program := "ytngomgkinaodjaadoor", sum := "d85110252f55a568ab07402b8cda4599c6cc89e335e641163c4403f8a0339af3", func := "dynamo/dynamolaw11.SlotUnlike", spec := "slotUnlike", named := ["dynamo/api.ErrShort", "dynamo/api.ErrLong", "dynamo/api.ErrNone", "dynamo/api.ErrSum", "dynamo/api.ErrRange", "dynamo/api.ErrTable", "dynamo/api.ErrConfig"], apart := false, laid := [("dynamo/api.ErrRange", laid_dynamo_api_ErrRange), ("dynamo/api.ErrLong", laid_dynamo_api_ErrLong), ("dynamo/api.ErrShort", laid_dynamo_api_ErrShort), ("dynamo/api.ErrSum", laid_dynamo_api_ErrSum), ("dynamo/api.ErrTable", laid_dynamo_api_ErrTable), ("dynamo/api.ErrConfig", laid_dynamo_api_ErrConfig), ("dynamo/api.ErrNone", laid_dynamo_api_ErrNone)] }
def SlotUnlikeSaid : Prop := slotUnlikeRow.holds Tryd.pinned (OpenSpec.ofChange slotUnlikeSpec)

/-- ITS FALSE NEIGHBOUR: 'it returns false'. Refute it at one input. -/
def slotUnlikeWrong : ChangeSpec := { name := "slotUnlike", fn := fun _ => fun
  | [d1, d2, d3, d4, d5] => { results := [.lit (.bool false)], args := [d1, d2, d3, d4, d5] }
  | _ => none }
def SlotUnlikeWrongFalsely : Prop := slotUnlikeRow.holds Tryd.pinned (OpenSpec.ofChange slotUnlikeWrong)

/- THE SECOND FORM. 'bulk': how many values and letters a reading holds, each counted each time it is reached (what is shared counts as often as it is met; a slice's spare places count too). A statement '..UptoSaid' is the law's where the arguments, and the package variables that the reading takes, are together of bulk at most 1048576: NARROWER than '..Said'. Prove '..Said' where nothing that the law and all that it calls make is longer than what came in: it says more and counts as full. Else prove '..UptoSaid'. A law counts once. -/
mutual
def uptoBulk {H : Type} : DataW H → Nat
  | .lit (.string bytes) => bytes.length + 1
  | .lit _ => 1
  | .nil => 1
  | .ptr d => uptoBulk d + 1
  | .slice elems spare => uptoBulkAll elems + uptoBulkAll spare + 1
  | .agg parts => uptoBulkAll parts + 1
  | .iface _ d => uptoBulk d + 1
  | .map entries => uptoBulkEntries entries + 1
  | .held _ => 1
def uptoBulkAll {H : Type} : List (DataW H) → Nat
  | [] => 0
  | d :: r => uptoBulk d + uptoBulkAll r
def uptoBulkEntries {H : Type} : List (Lit × DataW H) → Nat
  | [] => 0
  | x :: r => uptoBulkEntry x + uptoBulkEntries r
def uptoBulkEntry {H : Type} : Lit × DataW H → Nat
  | (.string bytes, d) => bytes.length + uptoBulk d + 1
  | (_, d) => uptoBulk d + 1
 end
def uptoSmall : (H : Type) → List (DataW H) → Bool := fun _ ds => decide (uptoBulkAll ds ≤ 1048576)
def OpenSpec.upto (s : _root_.Go.ChangeSpec) : _root_.Go.OpenSpec := { _root_.Go.OpenSpec.ofChange s with cond := some uptoSmall }

/-- 'dynamolaw6.FrameSays', WHERE WHAT IT READS IS OF BULK AT MOST 1048576: true; the input reads as it did. -/
def frameSaysUptoRow : OpenClaim := { program := "ytngomgkinaodjaadoor", sum := "d85110252f55a568ab07402b8cda4599c6cc89e335e641163c4403f8a0339af3", func := "dynamo/dynamolaw6.FrameSays", spec := "frameSays", named := ["dynamo/api.ErrLong", "dynamo/api.ErrRange", "dynamo/api.ErrShort", "dynamo/api.ErrSum", "dynamo/api.ErrTable", "dynamo/api.ErrConfig", "dynamo/api.ErrNone"], apart := false, laid := [("dynamo/api.ErrRange", laid_dynamo_api_ErrRange), ("dynamo/api.ErrLong", laid_dynamo_api_ErrLong), ("dynamo/api.ErrShort", laid_dynamo_api_ErrShort), ("dynamo/api.ErrSum", laid_dynamo_api_ErrSum), ("dynamo/api.ErrTable", laid_dynamo_api_ErrTable), ("dynamo/api.ErrConfig", laid_dynamo_api_ErrConfig), ("dynamo/api.ErrNone", laid_dynamo_api_ErrNone)], narrowed := true }
def FrameSaysUptoSaid : Prop := frameSaysUptoRow.holds Tryd.pinned (OpenSpec.upto frameSaysSpec)

/-- 'dynamolaw6.FrameRows', WHERE WHAT IT READS IS OF BULK AT MOST 1048576: true; the input reads as it did. -/
def frameRowsUptoRow : OpenClaim := { program := "ytngomgkinaodjaadoor", sum := "d85110252f55a568ab07402b8cda4599c6cc89e335e641163c4403f8a0339af3", func := "dynamo/dynamolaw6.FrameRows", spec := "frameRows", named := ["dynamo/api.ErrLong"], apart := false, laid := [("dynamo/api.ErrLong", laid_dynamo_api_ErrLong)], narrowed := true }
def FrameRowsUptoSaid : Prop := frameRowsUptoRow.holds Tryd.pinned (OpenSpec.upto frameRowsSpec)

/-- 'dynamolaw6.FrameTurned', WHERE WHAT IT READS IS OF BULK AT MOST 1048576: true; the input reads as it did. -/
def frameTurnedUptoRow : OpenClaim := { program := "ytngomgkinaodjaadoor", sum := "d85110252f55a568ab07402b8cda4599c6cc89e335e641163c4403f8a0339af3", func := "dynamo/dynamolaw6.FrameTurned", spec := "frameTurned", named := ["dynamo/api.ErrLong"], apart := false, laid := [("dynamo/api.ErrLong", laid_dynamo_api_ErrLong)], narrowed := true }
def FrameTurnedUptoSaid : Prop := frameTurnedUptoRow.holds Tryd.pinned (OpenSpec.upto frameTurnedSpec)

/-- 'dynamolaw6.FrameTwice', WHERE WHAT IT READS IS OF BULK AT MOST 1048576: true; the input reads as it did. -/
def frameTwiceUptoRow : OpenClaim := { program := "ytngomgkinaodjaadoor", sum := "d85110252f55a568ab07402b8cda4599c6cc89e335e641163c4403f8a0339af3", func := "dynamo/dynamolaw6.FrameTwice", spec := "frameTwice", named := ["dynamo/api.ErrLong"], apart := false, laid := [("dynamo/api.ErrLong", laid_dynamo_api_ErrLong)], narrowed := true }
def FrameTwiceUptoSaid : Prop := frameTwiceUptoRow.holds Tryd.pinned (OpenSpec.upto frameTwiceSpec)

/-- 'dynamolaw6.FrameLong', WHERE WHAT IT READS IS OF BULK AT MOST 1048576: true; the input reads as it did. -/
def frameLongUptoRow : OpenClaim := { program := "ytngomgkinaodjaadoor", sum := "d85110252f55a568ab07402b8cda4599c6cc89e335e641163c4403f8a0339af3", func := "dynamo/dynamolaw6.FrameLong", spec := "frameLong", named := ["dynamo/api.ErrLong"], apart := false, laid := [("dynamo/api.ErrLong", laid_dynamo_api_ErrLong)], narrowed := true }
def FrameLongUptoSaid : Prop := frameLongUptoRow.holds Tryd.pinned (OpenSpec.upto frameLongSpec)

/-- 'dynamolaw11.SlotSays', WHERE WHAT IT READS IS OF BULK AT MOST 1048576: true; the input reads as it did. -/
def slotSaysUptoRow : OpenClaim := { program := "ytngomgkinaodjaadoor", sum := "d85110252f55a568ab07402b8cda4599c6cc89e335e641163c4403f8a0339af3", func := "dynamo/dynamolaw11.SlotSays", spec := "slotSays", named := ["dynamo/api.ErrShort", "dynamo/api.ErrLong", "dynamo/api.ErrNone", "dynamo/api.ErrSum", "dynamo/api.ErrRange", "dynamo/api.ErrTable", "dynamo/api.ErrConfig"], apart := false, laid := [("dynamo/api.ErrRange", laid_dynamo_api_ErrRange), ("dynamo/api.ErrLong", laid_dynamo_api_ErrLong), ("dynamo/api.ErrShort", laid_dynamo_api_ErrShort), ("dynamo/api.ErrSum", laid_dynamo_api_ErrSum), ("dynamo/api.ErrTable", laid_dynamo_api_ErrTable), ("dynamo/api.ErrConfig", laid_dynamo_api_ErrConfig), ("dynamo/api.ErrNone", laid_dynamo_api_ErrNone)], narrowed := true }
def SlotSaysUptoSaid : Prop := slotSaysUptoRow.holds Tryd.pinned (OpenSpec.upto slotSaysSpec)

/-- 'dynamolaw11.SlotBack', WHERE WHAT IT READS IS OF BULK AT MOST 1048576: true; the input reads as it did. -/
def slotBackUptoRow : OpenClaim := { program := "ytngomgkinaodjaadoor", sum := "d85110252f55a568ab07402b8cda4599c6cc89e335e641163c4403f8a0339af3", func := "dynamo/dynamolaw11.SlotBack", spec := "slotBack", named := ["dynamo/api.ErrShort", "dynamo/api.ErrLong", "dynamo/api.ErrNone", "dynamo/api.ErrSum", "dynamo/api.ErrRange", "dynamo/api.ErrTable", "dynamo/api.ErrConfig"], apart := false, laid := [("dynamo/api.ErrRange", laid_dynamo_api_ErrRange), ("dynamo/api.ErrLong", laid_dynamo_api_ErrLong), ("dynamo/api.ErrShort", laid_dynamo_api_ErrShort), ("dynamo/api.ErrSum", laid_dynamo_api_ErrSum), ("dynamo/api.ErrTable", laid_dynamo_api_ErrTable), ("dynamo/api.ErrConfig", laid_dynamo_api_ErrConfig), ("dynamo/api.ErrNone", laid_dynamo_api_ErrNone)], narrowed := true }
def SlotBackUptoSaid : Prop := slotBackUptoRow.holds Tryd.pinned (OpenSpec.upto slotBackSpec)

/-- 'dynamolaw11.SlotBounds', WHERE WHAT IT READS IS OF BULK AT MOST 1048576: true; the input reads as it did. -/
def slotBoundsUptoRow : OpenClaim := { program := "ytngomgkinaodjaadoor", sum := "d85110252f55a568ab07402b8cda4599c6cc89e335e641163c4403f8a0339af3", func := "dynamo/dynamolaw11.SlotBounds", spec := "slotBounds", named := ["dynamo/api.ErrShort", "dynamo/api.ErrLong", "dynamo/api.ErrNone", "dynamo/api.ErrSum", "dynamo/api.ErrRange", "dynamo/api.ErrTable", "dynamo/api.ErrConfig"], apart := false, laid := [("dynamo/api.ErrRange", laid_dynamo_api_ErrRange), ("dynamo/api.ErrLong", laid_dynamo_api_ErrLong), ("dynamo/api.ErrShort", laid_dynamo_api_ErrShort), ("dynamo/api.ErrSum", laid_dynamo_api_ErrSum), ("dynamo/api.ErrTable", laid_dynamo_api_ErrTable), ("dynamo/api.ErrConfig", laid_dynamo_api_ErrConfig), ("dynamo/api.ErrNone", laid_dynamo_api_ErrNone)], narrowed := true }
def SlotBoundsUptoSaid : Prop := slotBoundsUptoRow.holds Tryd.pinned (OpenSpec.upto slotBoundsSpec)

/-- 'dynamolaw11.SlotUnlike', WHERE WHAT IT READS IS OF BULK AT MOST 1048576: true; the input reads as it did. -/
def slotUnlikeUptoRow : OpenClaim := { program := "ytngomgkinaodjaadoor", sum := "d85110252f55a568ab07402b8cda4599c6cc89e335e641163c4403f8a0339af3", func := "dynamo/dynamolaw11.SlotUnlike", spec := "slotUnlike", named := ["dynamo/api.ErrShort", "dynamo/api.ErrLong", "dynamo/api.ErrNone", "dynamo/api.ErrSum", "dynamo/api.ErrRange", "dynamo/api.ErrTable", "dynamo/api.ErrConfig"], apart := false, laid := [("dynamo/api.ErrRange", laid_dynamo_api_ErrRange), ("dynamo/api.ErrLong", laid_dynamo_api_ErrLong), ("dynamo/api.ErrShort", laid_dynamo_api_ErrShort), ("dynamo/api.ErrSum", laid_dynamo_api_ErrSum), ("dynamo/api.ErrTable", laid_dynamo_api_ErrTable), ("dynamo/api.ErrConfig", laid_dynamo_api_ErrConfig), ("dynamo/api.ErrNone", laid_dynamo_api_ErrNone)], narrowed := true }
def SlotUnlikeUptoSaid : Prop := slotUnlikeUptoRow.holds Tryd.pinned (OpenSpec.upto slotUnlikeSpec)

end Rows
end Go.Proofs.YtngomgkinaodjaaDoor
