/-
  DERIVED. GIVEN WITH THE SEED: THE CARDS: each row of YtakdoagigbjngaaDoorRows.lean that lists a variable, with what it lists TIED to the program's text (the seventh form; the later family's looks); each row that meets fmt, with fmt's text TOLD by the authors' own Lean function (tested against real Go, not proved from fmt's source: count such statements apart). THE CARD IS WHAT COUNTS. Prove the row's statement (the work); the ties are given (YtakdoagigbjngaaDoorTie.lean); close each card by the builder's one call (the guide's Derived/Test/ToyasCard.lean, 'card_holds'). Laid BY PROGRAM, IN A SANDBOX (cutbox-door.mjs). By AI agents, Wed Nov 11 2026. No macro, syntax, notation, axiom, sorry.
-/
import Derived.Test.YtakdoagigbjngaaDoorRows
import GoSem.ClaimSeven
namespace Go.Proofs.YtakdoagigbjngaaDoor
namespace Rows

/-- THE TIED CARD OF 'dynamolaw19.SagSays'. -/
def sagSaysCard : Claim7 := { stood := { row := sagSaysRow, standIns := [], harness := (true, "98f9014fa3a0b693802b87fe7b4ce087fd926c757be33f37e4e1de311d7eea74"), looks := false }, kinds := [], alts := [], laidByText := true, laidKinds := [.sentinel, .sentinel, .sentinel, .sentinel], laidTests := true, laidLooks := .later }
def SagSaysCardSaid : Prop := Claim7.holds Tryd.pinned (.plain (OpenSpec.ofChange sagSaysSpec)) sagSaysCard

/-- THE TIED CARD OF 'dynamolaw19.SagHolds'. -/
def sagHoldsCard : Claim7 := { stood := { row := sagHoldsRow, standIns := [], harness := (true, "98f9014fa3a0b693802b87fe7b4ce087fd926c757be33f37e4e1de311d7eea74"), looks := false }, kinds := [], alts := [], laidByText := true, laidKinds := [.sentinel, .sentinel, .sentinel, .sentinel], laidTests := true, laidLooks := .later }
def SagHoldsCardSaid : Prop := Claim7.holds Tryd.pinned (.plain (OpenSpec.ofChange sagHoldsSpec)) sagHoldsCard

/-- THE TIED CARD OF 'dynamolaw19.SagMore'. -/
def sagMoreCard : Claim7 := { stood := { row := sagMoreRow, standIns := [], harness := (true, "98f9014fa3a0b693802b87fe7b4ce087fd926c757be33f37e4e1de311d7eea74"), looks := false }, kinds := [], alts := [], laidByText := true, laidKinds := [.sentinel, .sentinel, .sentinel, .sentinel], laidTests := true, laidLooks := .later }
def SagMoreCardSaid : Prop := Claim7.holds Tryd.pinned (.plain (OpenSpec.ofChange sagMoreSpec)) sagMoreCard

/-- THE TIED CARD OF 'dynamolaw19.SagFresh'. -/
def sagFreshCard : Claim7 := { stood := { row := sagFreshRow, standIns := [], harness := (true, "98f9014fa3a0b693802b87fe7b4ce087fd926c757be33f37e4e1de311d7eea74"), looks := false }, kinds := [], alts := [], laidByText := true, laidKinds := [.sentinel, .sentinel, .sentinel, .sentinel], laidTests := true, laidLooks := .later }
def SagFreshCardSaid : Prop := Claim7.holds Tryd.pinned (.plain (OpenSpec.ofChange sagFreshSpec)) sagFreshCard

/-- THE TIED CARD OF 'dynamolaw20.ChargePlays'. -/
def chargePlaysCard : Claim7 := { stood := { row := chargePlaysRow, standIns := [], harness := (true, "98f9014fa3a0b693802b87fe7b4ce087fd926c757be33f37e4e1de311d7eea74"), looks := false }, kinds := [], alts := [], laidByText := true, laidKinds := [.sentinel, .sentinel, .sentinel, .sentinel], laidTests := true, laidLooks := .later }
def ChargePlaysCardSaid : Prop := Claim7.holds Tryd.pinned (.plain (OpenSpec.ofChange chargePlaysSpec)) chargePlaysCard

/-- THE TIED CARD OF 'dynamolaw20.ChargeHolds'. -/
def chargeHoldsCard : Claim7 := { stood := { row := chargeHoldsRow, standIns := [], harness := (true, "98f9014fa3a0b693802b87fe7b4ce087fd926c757be33f37e4e1de311d7eea74"), looks := false }, kinds := [], alts := [], laidByText := true, laidKinds := [.sentinel, .sentinel, .sentinel, .sentinel], laidTests := true, laidLooks := .later }
def ChargeHoldsCardSaid : Prop := Claim7.holds Tryd.pinned (.plain (OpenSpec.ofChange chargeHoldsSpec)) chargeHoldsCard

/-- THE TIED CARD OF 'dynamolaw20.ChargeKnown'. -/
def chargeKnownCard : Claim7 := { stood := { row := chargeKnownRow, standIns := [], harness := (true, "98f9014fa3a0b693802b87fe7b4ce087fd926c757be33f37e4e1de311d7eea74"), looks := false }, kinds := [], alts := [], laidByText := true, laidKinds := [.sentinel, .sentinel, .sentinel, .sentinel], laidTests := true, laidLooks := .later }
def ChargeKnownCardSaid : Prop := Claim7.holds Tryd.pinned (.plain (OpenSpec.ofChange chargeKnownSpec)) chargeKnownCard

/-- THE TIED CARD OF 'dynamolaw20.ChargeApart'. -/
def chargeApartCard : Claim7 := { stood := { row := chargeApartRow, standIns := [], harness := (true, "98f9014fa3a0b693802b87fe7b4ce087fd926c757be33f37e4e1de311d7eea74"), looks := false }, kinds := [], alts := [], laidByText := true, laidKinds := [.sentinel, .sentinel, .sentinel, .sentinel], laidTests := true, laidLooks := .later }
def ChargeApartCardSaid : Prop := Claim7.holds Tryd.pinned (.plain (OpenSpec.ofChange chargeApartSpec)) chargeApartCard

/-- THE SECOND FORM's CARD OF 'dynamolaw19.SagSays'. -/
def sagSaysUptoCard : Claim7 := { stood := { row := sagSaysUptoRow, standIns := [], harness := (true, "98f9014fa3a0b693802b87fe7b4ce087fd926c757be33f37e4e1de311d7eea74"), looks := false }, kinds := [], alts := [], laidByText := true, laidKinds := [.sentinel, .sentinel, .sentinel, .sentinel], laidTests := true, laidLooks := .later }
def SagSaysUptoCardSaid : Prop := Claim7.holds Tryd.pinned (.plain (OpenSpec.upto sagSaysSpec)) sagSaysUptoCard

/-- THE SECOND FORM's CARD OF 'dynamolaw19.SagHolds'. -/
def sagHoldsUptoCard : Claim7 := { stood := { row := sagHoldsUptoRow, standIns := [], harness := (true, "98f9014fa3a0b693802b87fe7b4ce087fd926c757be33f37e4e1de311d7eea74"), looks := false }, kinds := [], alts := [], laidByText := true, laidKinds := [.sentinel, .sentinel, .sentinel, .sentinel], laidTests := true, laidLooks := .later }
def SagHoldsUptoCardSaid : Prop := Claim7.holds Tryd.pinned (.plain (OpenSpec.upto sagHoldsSpec)) sagHoldsUptoCard

/-- THE SECOND FORM's CARD OF 'dynamolaw19.SagMore'. -/
def sagMoreUptoCard : Claim7 := { stood := { row := sagMoreUptoRow, standIns := [], harness := (true, "98f9014fa3a0b693802b87fe7b4ce087fd926c757be33f37e4e1de311d7eea74"), looks := false }, kinds := [], alts := [], laidByText := true, laidKinds := [.sentinel, .sentinel, .sentinel, .sentinel], laidTests := true, laidLooks := .later }
def SagMoreUptoCardSaid : Prop := Claim7.holds Tryd.pinned (.plain (OpenSpec.upto sagMoreSpec)) sagMoreUptoCard

/-- THE SECOND FORM's CARD OF 'dynamolaw19.SagFresh'. -/
def sagFreshUptoCard : Claim7 := { stood := { row := sagFreshUptoRow, standIns := [], harness := (true, "98f9014fa3a0b693802b87fe7b4ce087fd926c757be33f37e4e1de311d7eea74"), looks := false }, kinds := [], alts := [], laidByText := true, laidKinds := [.sentinel, .sentinel, .sentinel, .sentinel], laidTests := true, laidLooks := .later }
def SagFreshUptoCardSaid : Prop := Claim7.holds Tryd.pinned (.plain (OpenSpec.upto sagFreshSpec)) sagFreshUptoCard

/-- THE SECOND FORM's CARD OF 'dynamolaw20.ChargePlays'. -/
def chargePlaysUptoCard : Claim7 := { stood := { row := chargePlaysUptoRow, standIns := [], harness := (true, "98f9014fa3a0b693802b87fe7b4ce087fd926c757be33f37e4e1de311d7eea74"), looks := false }, kinds := [], alts := [], laidByText := true, laidKinds := [.sentinel, .sentinel, .sentinel, .sentinel], laidTests := true, laidLooks := .later }
def ChargePlaysUptoCardSaid : Prop := Claim7.holds Tryd.pinned (.plain (OpenSpec.upto chargePlaysSpec)) chargePlaysUptoCard

/-- THE SECOND FORM's CARD OF 'dynamolaw20.ChargeHolds'. -/
def chargeHoldsUptoCard : Claim7 := { stood := { row := chargeHoldsUptoRow, standIns := [], harness := (true, "98f9014fa3a0b693802b87fe7b4ce087fd926c757be33f37e4e1de311d7eea74"), looks := false }, kinds := [], alts := [], laidByText := true, laidKinds := [.sentinel, .sentinel, .sentinel, .sentinel], laidTests := true, laidLooks := .later }
def ChargeHoldsUptoCardSaid : Prop := Claim7.holds Tryd.pinned (.plain (OpenSpec.upto chargeHoldsSpec)) chargeHoldsUptoCard

/-- THE SECOND FORM's CARD OF 'dynamolaw20.ChargeKnown'. -/
def chargeKnownUptoCard : Claim7 := { stood := { row := chargeKnownUptoRow, standIns := [], harness := (true, "98f9014fa3a0b693802b87fe7b4ce087fd926c757be33f37e4e1de311d7eea74"), looks := false }, kinds := [], alts := [], laidByText := true, laidKinds := [.sentinel, .sentinel, .sentinel, .sentinel], laidTests := true, laidLooks := .later }
def ChargeKnownUptoCardSaid : Prop := Claim7.holds Tryd.pinned (.plain (OpenSpec.upto chargeKnownSpec)) chargeKnownUptoCard

/-- THE SECOND FORM's CARD OF 'dynamolaw20.ChargeApart'. -/
def chargeApartUptoCard : Claim7 := { stood := { row := chargeApartUptoRow, standIns := [], harness := (true, "98f9014fa3a0b693802b87fe7b4ce087fd926c757be33f37e4e1de311d7eea74"), looks := false }, kinds := [], alts := [], laidByText := true, laidKinds := [.sentinel, .sentinel, .sentinel, .sentinel], laidTests := true, laidLooks := .later }
def ChargeApartUptoCardSaid : Prop := Claim7.holds Tryd.pinned (.plain (OpenSpec.upto chargeApartSpec)) chargeApartUptoCard
end Rows
end Go.Proofs.YtakdoagigbjngaaDoor
