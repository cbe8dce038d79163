/-
  NARROWER THAN 'FOR EVERY INPUT', by the rows' own cells (each row's printed sentence says how): SagSays: laid · SagHolds: laid · SagMore: laid · SagFresh: laid · ChargePlays: laid · ChargeHolds: laid · ChargeKnown: laid · ChargeApart: laid.
  DERIVED. THE GIVEN ROWS OF THIS SEAT. 8 by the template 'for every input the law returns true; each argument reads behind the call as it read before'; 0 by the template 'total and deterministic' (their statements: YtakdoagigbjngaaDoorTotals.lean).
  GIVEN WITH THE SEED: the statements are not yours to turn. If you find one false, say at which input.
  Laid BY PROGRAM, IN A SANDBOX (cutbox-rows.mjs): the forced cells as the released guide's own fill.sh prints them over the translation ff4944596961fc8b… (all of the seat's roots in one cut). By AI agents, Wed Nov 11 2026. No macro, syntax, notation, axiom, sorry.
-/
import Derived.Test.YtakdoagigbjngaaDoorChecked
import GoSem.Claim
import GoSem.ClaimJoined
import GoSem.ClaimMapViews
import Derived.JoinedTies
import Derived.KernelRfl
namespace Go.Proofs.YtakdoagigbjngaaDoor
/- THE CELL 'sum', in the pinned program and in every row, IS THE sha256 OF THE DUMP (.gsa) THAT YtakdoagigbjngaaDoorProg.lean LOADS. Nothing in Lean hashes anything: it is a label: what it is worth is what the hold of that sum in a sandbox is worth. -/
noncomputable def Tryd.pinned : Pinned := { name := "ytakdoagigbjngaadoor", sum := "ff4944596961fc8b308e81d842343f9fd33204df43b016728ae9e309aaa25ca4", checked := Tryd.checked }
namespace Rows
def none {H : Type} : Left H := { results := [], args := [] }

/- WHAT THE LISTED PACKAGE-LEVEL VARIABLES READ AS WHEN THE CALL BEGINS. Each datum BY PROGRAM (the guide's laid-datum.mjs) off the statement by which the dump's own 'gosem.cut.vars' lays the variable. In a bare row this is a premise. The card (YtakdoagigbjngaaDoorCards.lean) ties it to the program's text. -/
def laid_dynamo_api_ErrRange {H : Type} : DataW H := .iface "*errors.errorString" (.ptr (.agg [.lit (.string [97, 32, 110, 117, 109, 98, 101, 114, 32, 111, 117, 116, 32, 111, 102, 32, 105, 116, 115, 32, 114, 97, 110, 103, 101])]))
def laid_dynamo_api_ErrLong {H : Type} : DataW H := .iface "*errors.errorString" (.ptr (.agg [.lit (.string [109, 111, 114, 101, 32, 116, 104, 97, 110, 32, 109, 97, 121, 32, 98, 101])]))
def laid_dynamo_api_ErrShort {H : Type} : DataW H := .iface "*errors.errorString" (.ptr (.agg [.lit (.string [108, 101, 115, 115, 32, 116, 104, 97, 110, 32, 104, 97, 115, 32, 116, 111, 32, 98, 101])]))
def laid_dynamo_api_ErrTable {H : Type} : DataW H := .iface "*errors.errorString" (.ptr (.agg [.lit (.string [97, 32, 116, 97, 98, 108, 101, 32, 116, 104, 97, 116, 32, 100, 111, 101, 115, 32, 110, 111, 116, 32, 114, 105, 115, 101])]))

/-- 'dynamolaw19.SagSays': WHATEVER THE INPUT: true; the input reads as it did. -/
def sagSaysSpec : ChangeSpec := { name := "sagSays", fn := fun _ => fun
  | [d1, d2, d3, d4, d5] => { results := [.lit (.bool true)], args := [d1, d2, d3, d4, d5] }
  | _ => none }
def sagSaysRow : OpenClaim := { program := "ytakdoagigbjngaadoor", sum := "ff4944596961fc8b308e81d842343f9fd33204df43b016728ae9e309aaa25ca4", func := "dynamo/dynamolaw19.SagSays", spec := "sagSays", unfollowed := true, recurses := true, named := ["dynamo/api.ErrShort", "dynamo/api.ErrLong", "dynamo/api.ErrRange", "dynamo/api.ErrTable"], apart := false, laid := [("dynamo/api.ErrRange", laid_dynamo_api_ErrRange), ("dynamo/api.ErrLong", laid_dynamo_api_ErrLong), ("dynamo/api.ErrShort", laid_dynamo_api_ErrShort), ("dynamo/api.ErrTable", laid_dynamo_api_ErrTable)] }
def SagSaysSaid : Prop := sagSaysRow.holds Tryd.pinned (OpenSpec.ofChange sagSaysSpec)

/-- ITS FALSE NEIGHBOUR: 'it returns false'. Refute it at one input. -/
def sagSaysWrong : ChangeSpec := { name := "sagSays", fn := fun _ => fun
  | [d1, d2, d3, d4, d5] => { results := [.lit (.bool false)], args := [d1, d2, d3, d4, d5] }
  | _ => none }
def SagSaysWrongFalsely : Prop := sagSaysRow.holds Tryd.pinned (OpenSpec.ofChange sagSaysWrong)

/-- 'dynamolaw19.SagHolds': WHATEVER THE INPUT: true; the input reads as it did. -/
def sagHoldsSpec : ChangeSpec := { name := "sagHolds", fn := fun _ => fun
  | [d1, d2, d3, d4, d5, d6] => { results := [.lit (.bool true)], args := [d1, d2, d3, d4, d5, d6] }
  | _ => none }
def sagHoldsRow : OpenClaim := { program := "ytakdoagigbjngaadoor", sum := "ff4944596961fc8b308e81d842343f9fd33204df43b016728ae9e309aaa25ca4", func := "dynamo/dynamolaw19.SagHolds", spec := "sagHolds", unfollowed := true, recurses := true, named := ["dynamo/api.ErrShort", "dynamo/api.ErrLong", "dynamo/api.ErrRange", "dynamo/api.ErrTable"], apart := false, laid := [("dynamo/api.ErrRange", laid_dynamo_api_ErrRange), ("dynamo/api.ErrLong", laid_dynamo_api_ErrLong), ("dynamo/api.ErrShort", laid_dynamo_api_ErrShort), ("dynamo/api.ErrTable", laid_dynamo_api_ErrTable)] }
def SagHoldsSaid : Prop := sagHoldsRow.holds Tryd.pinned (OpenSpec.ofChange sagHoldsSpec)

/-- ITS FALSE NEIGHBOUR: 'it returns false'. Refute it at one input. -/
def sagHoldsWrong : ChangeSpec := { name := "sagHolds", fn := fun _ => fun
  | [d1, d2, d3, d4, d5, d6] => { results := [.lit (.bool false)], args := [d1, d2, d3, d4, d5, d6] }
  | _ => none }
def SagHoldsWrongFalsely : Prop := sagHoldsRow.holds Tryd.pinned (OpenSpec.ofChange sagHoldsWrong)

/-- 'dynamolaw19.SagMore': WHATEVER THE INPUT: true; the input reads as it did. -/
def sagMoreSpec : ChangeSpec := { name := "sagMore", fn := fun _ => fun
  | [d1, d2, d3, d4, d5, d6] => { results := [.lit (.bool true)], args := [d1, d2, d3, d4, d5, d6] }
  | _ => none }
def sagMoreRow : OpenClaim := { program := "ytakdoagigbjngaadoor", sum := "ff4944596961fc8b308e81d842343f9fd33204df43b016728ae9e309aaa25ca4", func := "dynamo/dynamolaw19.SagMore", spec := "sagMore", unfollowed := true, recurses := true, named := ["dynamo/api.ErrShort", "dynamo/api.ErrLong", "dynamo/api.ErrRange", "dynamo/api.ErrTable"], apart := false, laid := [("dynamo/api.ErrRange", laid_dynamo_api_ErrRange), ("dynamo/api.ErrLong", laid_dynamo_api_ErrLong), ("dynamo/api.ErrShort", laid_dynamo_api_ErrShort), ("dynamo/api.ErrTable", laid_dynamo_api_ErrTable)] }
def SagMoreSaid : Prop := sagMoreRow.holds Tryd.pinned (OpenSpec.ofChange sagMoreSpec)

/-- ITS FALSE NEIGHBOUR: 'it returns false'. Refute it at one input. -/
def sagMoreWrong : ChangeSpec := { name := "sagMore", fn := fun _ => fun
  | [d1, d2, d3, d4, d5, d6] => { results := [.lit (.bool false)], args := [d1, d2, d3, d4, d5, d6] }
  | _ => none }
def SagMoreWrongFalsely : Prop := sagMoreRow.holds Tryd.pinned (OpenSpec.ofChange sagMoreWrong)

/-- 'dynamolaw19.SagFresh': WHATEVER THE INPUT: true; the input reads as it did. -/
def sagFreshSpec : ChangeSpec := { name := "sagFresh", fn := fun _ => fun
  | [d1, d2, d3, d4] => { results := [.lit (.bool true)], args := [d1, d2, d3, d4] }
  | _ => none }
def sagFreshRow : OpenClaim := { program := "ytakdoagigbjngaadoor", sum := "ff4944596961fc8b308e81d842343f9fd33204df43b016728ae9e309aaa25ca4", func := "dynamo/dynamolaw19.SagFresh", spec := "sagFresh", unfollowed := true, recurses := true, named := ["dynamo/api.ErrShort", "dynamo/api.ErrLong", "dynamo/api.ErrRange", "dynamo/api.ErrTable"], apart := false, laid := [("dynamo/api.ErrRange", laid_dynamo_api_ErrRange), ("dynamo/api.ErrLong", laid_dynamo_api_ErrLong), ("dynamo/api.ErrShort", laid_dynamo_api_ErrShort), ("dynamo/api.ErrTable", laid_dynamo_api_ErrTable)] }
def SagFreshSaid : Prop := sagFreshRow.holds Tryd.pinned (OpenSpec.ofChange sagFreshSpec)

/-- ITS FALSE NEIGHBOUR: 'it returns false'. Refute it at one input. -/
def sagFreshWrong : ChangeSpec := { name := "sagFresh", fn := fun _ => fun
  | [d1, d2, d3, d4] => { results := [.lit (.bool false)], args := [d1, d2, d3, d4] }
  | _ => none }
def SagFreshWrongFalsely : Prop := sagFreshRow.holds Tryd.pinned (OpenSpec.ofChange sagFreshWrong)

/-- 'dynamolaw20.ChargePlays': WHATEVER THE INPUT: true; the input reads as it did. -/
def chargePlaysSpec : ChangeSpec := { name := "chargePlays", fn := fun _ => fun
  | [d1, d2, d3, d4, d5, d6] => { results := [.lit (.bool true)], args := [d1, d2, d3, d4, d5, d6] }
  | _ => none }
def chargePlaysRow : OpenClaim := { program := "ytakdoagigbjngaadoor", sum := "ff4944596961fc8b308e81d842343f9fd33204df43b016728ae9e309aaa25ca4", func := "dynamo/dynamolaw20.ChargePlays", spec := "chargePlays", unfollowed := true, recurses := true, named := ["dynamo/api.ErrShort", "dynamo/api.ErrLong", "dynamo/api.ErrRange", "dynamo/api.ErrTable"], apart := false, laid := [("dynamo/api.ErrRange", laid_dynamo_api_ErrRange), ("dynamo/api.ErrLong", laid_dynamo_api_ErrLong), ("dynamo/api.ErrShort", laid_dynamo_api_ErrShort), ("dynamo/api.ErrTable", laid_dynamo_api_ErrTable)] }
def ChargePlaysSaid : Prop := chargePlaysRow.holds Tryd.pinned (OpenSpec.ofChange chargePlaysSpec)

/-- ITS FALSE NEIGHBOUR: 'it returns false'. Refute it at one input. -/
def chargePlaysWrong : ChangeSpec := { name := "chargePlays", fn := fun _ => fun
  | [d1, d2, d3, d4, d5, d6] => { results := [.lit (.bool false)], args := [d1, d2, d3, d4, d5, d6] }
  | _ => none }
def ChargePlaysWrongFalsely : Prop := chargePlaysRow.holds Tryd.pinned (OpenSpec.ofChange chargePlaysWrong)

/-- 'dynamolaw20.ChargeHolds': WHATEVER THE INPUT: true; the input reads as it did. -/
def chargeHoldsSpec : ChangeSpec := { name := "chargeHolds", fn := fun _ => fun
  | [d1, d2, d3, d4, d5, d6, d7, d8] => { results := [.lit (.bool true)], args := [d1, d2, d3, d4, d5, d6, d7, d8] }
  | _ => none }
def chargeHoldsRow : OpenClaim := { program := "ytakdoagigbjngaadoor", sum := "ff4944596961fc8b308e81d842343f9fd33204df43b016728ae9e309aaa25ca4", func := "dynamo/dynamolaw20.ChargeHolds", spec := "chargeHolds", unfollowed := true, recurses := true, named := ["dynamo/api.ErrShort", "dynamo/api.ErrLong", "dynamo/api.ErrRange", "dynamo/api.ErrTable"], apart := false, laid := [("dynamo/api.ErrRange", laid_dynamo_api_ErrRange), ("dynamo/api.ErrLong", laid_dynamo_api_ErrLong), ("dynamo/api.ErrShort", laid_dynamo_api_ErrShort), ("dynamo/api.ErrTable", laid_dynamo_api_ErrTable)] }
def ChargeHoldsSaid : Prop := chargeHoldsRow.holds Tryd.pinned (OpenSpec.ofChange chargeHoldsSpec)

/-- ITS FALSE NEIGHBOUR: 'it returns false'. Refute it at one input. -/
def chargeHoldsWrong : ChangeSpec := { name := "chargeHolds", fn := fun _ => fun
  | [d1, d2, d3, d4, d5, d6, d7, d8] => { results := [.lit (.bool false)], args := [d1, d2, d3, d4, d5, d6, d7, d8] }
  | _ => none }
def ChargeHoldsWrongFalsely : Prop := chargeHoldsRow.holds Tryd.pinned (OpenSpec.ofChange chargeHoldsWrong)

/-- 'dynamolaw20.ChargeKnown': WHATEVER THE INPUT: true; the input reads as it did. -/
def chargeKnownSpec : ChangeSpec := { name := "chargeKnown", fn := fun _ => fun
  | [d1, d2, d3] => { results := [.lit (.bool true)], args := [d1, d2, d3] }
  | _ => none }
def chargeKnownRow : OpenClaim := { program := "ytakdoagigbjngaadoor", sum := "ff4944596961fc8b308e81d842343f9fd33204df43b016728ae9e309aaa25ca4", func := "dynamo/dynamolaw20.ChargeKnown", spec := "chargeKnown", unfollowed := true, recurses := true, named := ["dynamo/api.ErrShort", "dynamo/api.ErrLong", "dynamo/api.ErrRange", "dynamo/api.ErrTable"], apart := false, laid := [("dynamo/api.ErrRange", laid_dynamo_api_ErrRange), ("dynamo/api.ErrLong", laid_dynamo_api_ErrLong), ("dynamo/api.ErrShort", laid_dynamo_api_ErrShort), ("dynamo/api.ErrTable", laid_dynamo_api_ErrTable)] }
def ChargeKnownSaid : Prop := chargeKnownRow.holds Tryd.pinned (OpenSpec.ofChange chargeKnownSpec)

/-- ITS FALSE NEIGHBOUR: 'it returns false'. Refute it at one input. -/
def chargeKnownWrong : ChangeSpec := { name := "chargeKnown", fn := fun _ => fun
  | [d1, d2, d3] => { results := [.lit (.bool false)], args := [d1, d2, d3] }
  | _ => none }
def ChargeKnownWrongFalsely : Prop := chargeKnownRow.holds Tryd.pinned (OpenSpec.ofChange chargeKnownWrong)

/-- 'dynamolaw20.ChargeApart': WHATEVER THE INPUT: true; the input reads as it did. -/
def chargeApartSpec : ChangeSpec := { name := "chargeApart", fn := fun _ => fun
  | [d1, d2, d3, d4] => { results := [.lit (.bool true)], args := [d1, d2, d3, d4] }
  | _ => none }
def chargeApartRow : OpenClaim := { program := "ytakdoagigbjngaadoor", sum := "ff4944596961fc8b308e81d842343f9fd33204df43b016728ae9e309aaa25ca4", func := "dynamo/dynamolaw20.ChargeApart", spec := "chargeApart", unfollowed := true, recurses := true, named := ["dynamo/api.ErrShort", "dynamo/api.ErrLong", "dynamo/api.ErrRange", "dynamo/api.ErrTable"], apart := false, laid := [("dynamo/api.ErrRange", laid_dynamo_api_ErrRange), ("dynamo/api.ErrLong", laid_dynamo_api_ErrLong), ("dynamo/api.ErrShort", laid_dynamo_api_ErrShort), ("dynamo/api.ErrTable", laid_dynamo_api_ErrTable)] }
def ChargeApartSaid : Prop := chargeApartRow.holds Tryd.pinned (OpenSpec.ofChange chargeApartSpec)

/-- ITS FALSE NEIGHBOUR: 'it returns false'. Refute it at one input. -/
def chargeApartWrong : ChangeSpec := { name := "chargeApart", fn := fun _ => fun
  | [d1, d2, d3, d4] => { results := [.lit (.bool false)], args := [d1, d2, d3, d4] }
  | _ => none }
def ChargeApartWrongFalsely : Prop := chargeApartRow.holds Tryd.pinned (OpenSpec.ofChange chargeApartWrong)

/- THE SECOND FORM. 'bulk': how many values and letters a reading holds, each counted each time it is reached (what is shared counts as often as it is met; a slice's spare places count too). A statement '..UptoSaid' is the law's where the arguments, and the package variables that the reading takes, are together of bulk at most 1048576: NARROWER than '..Said'. Prove '..Said' where nothing that the law and all that it calls make is longer than what came in: it says more and counts as full. Else prove '..UptoSaid'. A law counts once. -/
mutual
def uptoBulk {H : Type} : DataW H → Nat
  | .lit (.string bytes) => bytes.length + 1
  | .lit _ => 1
  | .nil => 1
  | .ptr d => uptoBulk d + 1
  | .slice elems spare => uptoBulkAll elems + uptoBulkAll spare + 1
  | .agg parts => uptoBulkAll parts + 1
  | .iface _ d => uptoBulk d + 1
  | .map entries => uptoBulkEntries entries + 1
  | .held _ => 1
def uptoBulkAll {H : Type} : List (DataW H) → Nat
  | [] => 0
  | d :: r => uptoBulk d + uptoBulkAll r
def uptoBulkEntries {H : Type} : List (Lit × DataW H) → Nat
  | [] => 0
  | x :: r => uptoBulkEntry x + uptoBulkEntries r
def uptoBulkEntry {H : Type} : Lit × DataW H → Nat
  | (.string bytes, d) => bytes.length + uptoBulk d + 1
  | (_, d) => uptoBulk d + 1
 end
def uptoSmall : (H : Type) → List (DataW H) → Bool := fun _ ds => decide (uptoBulkAll ds ≤ 1048576)
def OpenSpec.upto (s : _root_.Go.ChangeSpec) : _root_.Go.OpenSpec := { _root_.Go.OpenSpec.ofChange s with cond := some uptoSmall }

/-- 'dynamolaw19.SagSays', WHERE WHAT IT READS IS OF BULK AT MOST 1048576: true; the input reads as it did. -/
def sagSaysUptoRow : OpenClaim := { program := "ytakdoagigbjngaadoor", sum := "ff4944596961fc8b308e81d842343f9fd33204df43b016728ae9e309aaa25ca4", func := "dynamo/dynamolaw19.SagSays", spec := "sagSays", unfollowed := true, recurses := true, named := ["dynamo/api.ErrShort", "dynamo/api.ErrLong", "dynamo/api.ErrRange", "dynamo/api.ErrTable"], apart := false, laid := [("dynamo/api.ErrRange", laid_dynamo_api_ErrRange), ("dynamo/api.ErrLong", laid_dynamo_api_ErrLong), ("dynamo/api.ErrShort", laid_dynamo_api_ErrShort), ("dynamo/api.ErrTable", laid_dynamo_api_ErrTable)], narrowed := true }
def SagSaysUptoSaid : Prop := sagSaysUptoRow.holds Tryd.pinned (OpenSpec.upto sagSaysSpec)

/-- 'dynamolaw19.SagHolds', WHERE WHAT IT READS IS OF BULK AT MOST 1048576: true; the input reads as it did. -/
def sagHoldsUptoRow : OpenClaim := { program := "ytakdoagigbjngaadoor", sum := "ff4944596961fc8b308e81d842343f9fd33204df43b016728ae9e309aaa25ca4", func := "dynamo/dynamolaw19.SagHolds", spec := "sagHolds", unfollowed := true, recurses := true, named := ["dynamo/api.ErrShort", "dynamo/api.ErrLong", "dynamo/api.ErrRange", "dynamo/api.ErrTable"], apart := false, laid := [("dynamo/api.ErrRange", laid_dynamo_api_ErrRange), ("dynamo/api.ErrLong", laid_dynamo_api_ErrLong), ("dynamo/api.ErrShort", laid_dynamo_api_ErrShort), ("dynamo/api.ErrTable", laid_dynamo_api_ErrTable)], narrowed := true }
def SagHoldsUptoSaid : Prop := sagHoldsUptoRow.holds Tryd.pinned (OpenSpec.upto sagHoldsSpec)

/-- 'dynamolaw19.SagMore', WHERE WHAT IT READS IS OF BULK AT MOST 1048576: true; the input reads as it did. -/
def sagMoreUptoRow : OpenClaim := { program := "ytakdoagigbjngaadoor", sum := "ff4944596961fc8b308e81d842343f9fd33204df43b016728ae9e309aaa25ca4", func := "dynamo/dynamolaw19.SagMore", spec := "sagMore", unfollowed := true, recurses := true, named := ["dynamo/api.ErrShort", "dynamo/api.ErrLong", "dynamo/api.ErrRange", "dynamo/api.ErrTable"], apart := false, laid := [("dynamo/api.ErrRange", laid_dynamo_api_ErrRange), ("dynamo/api.ErrLong", laid_dynamo_api_ErrLong), ("dynamo/api.ErrShort", laid_dynamo_api_ErrShort), ("dynamo/api.ErrTable", laid_dynamo_api_ErrTable)], narrowed := true }
def SagMoreUptoSaid : Prop := sagMoreUptoRow.holds Tryd.pinned (OpenSpec.upto sagMoreSpec)

/-- 'dynamolaw19.SagFresh', WHERE WHAT IT READS IS OF BULK AT MOST 1048576: true; the input reads as it did. -/
def sagFreshUptoRow : OpenClaim := { program := "ytakdoagigbjngaadoor", sum := "ff4944596961fc8b308e81d842343f9fd33204df43b016728ae9e309aaa25ca4", func := "dynamo/dynamolaw19.SagFresh", spec := "sagFresh", unfollowed := true, recurses := true, named := ["dynamo/api.ErrShort", "dynamo/api.ErrLong", "dynamo/api.ErrRange", "dynamo/api.ErrTable"], apart := false, laid := [("dynamo/api.ErrRange", laid_dynamo_api_ErrRange), ("dynamo/api.ErrLong", laid_dynamo_api_ErrLong), ("dynamo/api.ErrShort", laid_dynamo_api_ErrShort), ("dynamo/api.ErrTable", laid_dynamo_api_ErrTable)], narrowed := true }
def SagFreshUptoSaid : Prop := sagFreshUptoRow.holds Tryd.pinned (OpenSpec.upto sagFreshSpec)

/-- 'dynamolaw20.ChargePlays', WHERE WHAT IT READS IS OF BULK AT MOST 1048576: true; the input reads as it did. -/
def chargePlaysUptoRow : OpenClaim := { program := "ytakdoagigbjngaadoor", sum := "ff4944596961fc8b308e81d842343f9fd33204df43b016728ae9e309aaa25ca4", func := "dynamo/dynamolaw20.ChargePlays", spec := "chargePlays", unfollowed := true, recurses := true, named := ["dynamo/api.ErrShort", "dynamo/api.ErrLong", "dynamo/api.ErrRange", "dynamo/api.ErrTable"], apart := false, laid := [("dynamo/api.ErrRange", laid_dynamo_api_ErrRange), ("dynamo/api.ErrLong", laid_dynamo_api_ErrLong), ("dynamo/api.ErrShort", laid_dynamo_api_ErrShort), ("dynamo/api.ErrTable", laid_dynamo_api_ErrTable)], narrowed := true }
def ChargePlaysUptoSaid : Prop := chargePlaysUptoRow.holds Tryd.pinned (OpenSpec.upto chargePlaysSpec)

/-- 'dynamolaw20.ChargeHolds', WHERE WHAT IT READS IS OF BULK AT MOST 1048576: true; the input reads as it did. -/
def chargeHoldsUptoRow : OpenClaim := { program := "ytakdoagigbjngaadoor", sum := "ff4944596961fc8b308e81d842343f9fd33204df43b016728ae9e309aaa25ca4", func := "dynamo/dynamolaw20.ChargeHolds", spec := "chargeHolds", unfollowed := true, recurses := true, named := ["dynamo/api.ErrShort", "dynamo/api.ErrLong", "dynamo/api.ErrRange", "dynamo/api.ErrTable"], apart := false, laid := [("dynamo/api.ErrRange", laid_dynamo_api_ErrRange), ("dynamo/api.ErrLong", laid_dynamo_api_ErrLong), ("dynamo/api.ErrShort", laid_dynamo_api_ErrShort), ("dynamo/api.ErrTable", laid_dynamo_api_ErrTable)], narrowed := true }
def ChargeHoldsUptoSaid : Prop := chargeHoldsUptoRow.holds Tryd.pinned (OpenSpec.upto chargeHoldsSpec)

/-- 'dynamolaw20.ChargeKnown', WHERE WHAT IT READS IS OF BULK AT MOST 1048576: true; the input reads as it did. -/
def chargeKnownUptoRow : OpenClaim := { program := "ytakdoagigbjngaadoor", sum := "ff4944596961fc8b308e81d842343f9fd33204df43b016728ae9e309aaa25ca4", func := "dynamo/dynamolaw20.ChargeKnown", spec := "chargeKnown", unfollowed := true, recurses := true, named := ["dynamo/api.ErrShort", "dynamo/api.ErrLong", "dynamo/api.ErrRange", "dynamo/api.ErrTable"], apart := false, laid := [("dynamo/api.ErrRange", laid_dynamo_api_ErrRange), ("dynamo/api.ErrLong", laid_dynamo_api_ErrLong), ("dynamo/api.ErrShort", laid_dynamo_api_ErrShort), ("dynamo/api.ErrTable", laid_dynamo_api_ErrTable)], narrowed := true }
def ChargeKnownUptoSaid : Prop := chargeKnownUptoRow.holds Tryd.pinned (OpenSpec.upto chargeKnownSpec)

/-- 'dynamolaw20.ChargeApart', WHERE WHAT IT READS IS OF BULK AT MOST 1048576: true; the input reads as it did. -/
def chargeApartUptoRow : OpenClaim := { program := "ytakdoagigbjngaadoor", sum := "ff4944596961fc8b308e81d842343f9fd33204df43b016728ae9e309aaa25ca4", func := "dynamo/dynamolaw20.ChargeApart", spec := "chargeApart", unfollowed := true, recurses := true, named := ["dynamo/api.ErrShort", "dynamo/api.ErrLong", "dynamo/api.ErrRange", "dynamo/api.ErrTable"], apart := false, laid := [("dynamo/api.ErrRange", laid_dynamo_api_ErrRange), ("dynamo/api.ErrLong", laid_dynamo_api_ErrLong), ("dynamo/api.ErrShort", laid_dynamo_api_ErrShort), ("dynamo/api.ErrTable", laid_dynamo_api_ErrTable)], narrowed := true }
def ChargeApartUptoSaid : Prop := chargeApartUptoRow.holds Tryd.pinned (OpenSpec.upto chargeApartSpec)

end Rows
end Go.Proofs.YtakdoagigbjngaaDoor
