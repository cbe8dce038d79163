/-
  DERIVED. GIVEN WITH THE SEED: THE CARDS: each row of YtbeemfkndpandaaDoorRows.lean that lists a variable, with what it lists TIED to the program's text (the seventh form; the later family's looks); each row that meets fmt, with fmt's text TOLD by the authors' own Lean function (tested against real Go, not proved from fmt's source: count such statements apart). THE CARD IS WHAT COUNTS. Prove the row's statement (the work); the ties are given (YtbeemfkndpandaaDoorTie.lean); close each card by the builder's one call (the guide's Derived/Test/ToyasCard.lean, 'card_holds'). Laid BY PROGRAM, IN A SANDBOX (cutbox-door.mjs). By AI agents, Wed Nov 11 2026. No macro, syntax, notation, axiom, sorry.
-/
import Derived.Test.YtbeemfkndpandaaDoorRows
import GoSem.ClaimSeven
namespace Go.Proofs.YtbeemfkndpandaaDoor
namespace Rows

/-- THE TIED CARD OF 'dynamolaw25.ShedSays'. -/
def shedSaysCard : Claim7 := { stood := { row := shedSaysRow, standIns := [], harness := (true, "b778282588b830765d194572f129c322bf10f745170cf5f37c4e858440bd7c0c"), looks := true }, kinds := [], alts := [], laidByText := true, laidKinds := [.data], laidTests := true, laidLooks := .later }
def ShedSaysCardSaid : Prop := Claim7.holds Tryd.pinned (.plain (OpenSpec.ofChange shedSaysSpec)) shedSaysCard

/-- THE TIED CARD OF 'dynamolaw25.ShedKeeps'. -/
def shedKeepsCard : Claim7 := { stood := { row := shedKeepsRow, standIns := [], harness := (true, "b778282588b830765d194572f129c322bf10f745170cf5f37c4e858440bd7c0c"), looks := true }, kinds := [], alts := [], laidByText := true, laidKinds := [.data], laidTests := true, laidLooks := .later }
def ShedKeepsCardSaid : Prop := Claim7.holds Tryd.pinned (.plain (OpenSpec.ofChange shedKeepsSpec)) shedKeepsCard

/-- THE TIED CARD OF 'dynamolaw25.ShedRooms'. -/
def shedRoomsCard : Claim7 := { stood := { row := shedRoomsRow, standIns := [], harness := (true, "b778282588b830765d194572f129c322bf10f745170cf5f37c4e858440bd7c0c"), looks := true }, kinds := [], alts := [], laidByText := true, laidKinds := [.data], laidTests := true, laidLooks := .later }
def ShedRoomsCardSaid : Prop := Claim7.holds Tryd.pinned (.plain (OpenSpec.ofChange shedRoomsSpec)) shedRoomsCard

/-- THE TIED CARD OF 'dynamolaw25.ShedTrips'. -/
def shedTripsCard : Claim7 := { stood := { row := shedTripsRow, standIns := [], harness := (true, "b778282588b830765d194572f129c322bf10f745170cf5f37c4e858440bd7c0c"), looks := true }, kinds := [], alts := [], laidByText := true, laidKinds := [.data], laidTests := true, laidLooks := .later }
def ShedTripsCardSaid : Prop := Claim7.holds Tryd.pinned (.plain (OpenSpec.ofChange shedTripsSpec)) shedTripsCard

/-- THE TIED CARD OF 'dynamolaw25.ShedBacks'. -/
def shedBacksCard : Claim7 := { stood := { row := shedBacksRow, standIns := [], harness := (true, "b778282588b830765d194572f129c322bf10f745170cf5f37c4e858440bd7c0c"), looks := true }, kinds := [], alts := [], laidByText := true, laidKinds := [.data], laidTests := true, laidLooks := .later }
def ShedBacksCardSaid : Prop := Claim7.holds Tryd.pinned (.plain (OpenSpec.ofChange shedBacksSpec)) shedBacksCard

/-- THE TIED CARD OF 'dynamolaw25.ShedLoads'. -/
def shedLoadsCard : Claim7 := { stood := { row := shedLoadsRow, standIns := [], harness := (true, "b778282588b830765d194572f129c322bf10f745170cf5f37c4e858440bd7c0c"), looks := true }, kinds := [], alts := [], laidByText := true, laidKinds := [.data], laidTests := true, laidLooks := .later }
def ShedLoadsCardSaid : Prop := Claim7.holds Tryd.pinned (.plain (OpenSpec.ofChange shedLoadsSpec)) shedLoadsCard

/-- THE TIED CARD OF 'dynamolaw25.ShedCharges'. -/
def shedChargesCard : Claim7 := { stood := { row := shedChargesRow, standIns := [], harness := (true, "b778282588b830765d194572f129c322bf10f745170cf5f37c4e858440bd7c0c"), looks := true }, kinds := [], alts := [], laidByText := true, laidKinds := [.data], laidTests := true, laidLooks := .later }
def ShedChargesCardSaid : Prop := Claim7.holds Tryd.pinned (.plain (OpenSpec.ofChange shedChargesSpec)) shedChargesCard

/-- THE TIED CARD OF 'dynamolaw27.ConfigSays'. -/
def configSaysCard : Claim7 := { stood := { row := configSaysRow, standIns := [], harness := (true, "b778282588b830765d194572f129c322bf10f745170cf5f37c4e858440bd7c0c"), looks := true }, kinds := [], alts := [], laidByText := true, laidKinds := [.sentinel, .sentinel, .sentinel, .sentinel, .sentinel, .sentinel, .sentinel], laidTests := true, laidLooks := .later }
def ConfigSaysCardSaid : Prop := Claim7.holds Tryd.pinned (.plain (OpenSpec.ofChange configSaysSpec)) configSaysCard

/-- THE TIED CARD OF 'dynamolaw27.ConfigOne'. -/
def configOneCard : Claim7 := { stood := { row := configOneRow, standIns := [], harness := (true, "b778282588b830765d194572f129c322bf10f745170cf5f37c4e858440bd7c0c"), looks := true }, kinds := [], alts := [], laidByText := true, laidKinds := [.sentinel, .sentinel, .sentinel, .sentinel, .sentinel, .sentinel, .sentinel], laidTests := true, laidLooks := .later }
def ConfigOneCardSaid : Prop := Claim7.holds Tryd.pinned (.plain (OpenSpec.ofChange configOneSpec)) configOneCard

/-- THE TIED CARD OF 'dynamolaw27.ConfigParts'. -/
def configPartsCard : Claim7 := { stood := { row := configPartsRow, standIns := [], harness := (true, "b778282588b830765d194572f129c322bf10f745170cf5f37c4e858440bd7c0c"), looks := true }, kinds := [], alts := [], laidByText := true, laidKinds := [.sentinel, .sentinel, .sentinel, .sentinel, .sentinel, .sentinel, .sentinel], laidTests := true, laidLooks := .later }
def ConfigPartsCardSaid : Prop := Claim7.holds Tryd.pinned (.plain (OpenSpec.ofChange configPartsSpec)) configPartsCard

/-- THE TIED CARD OF 'dynamolaw27.ConfigBounds'. -/
def configBoundsCard : Claim7 := { stood := { row := configBoundsRow, standIns := [], harness := (true, "b778282588b830765d194572f129c322bf10f745170cf5f37c4e858440bd7c0c"), looks := true }, kinds := [], alts := [], laidByText := true, laidKinds := [.sentinel, .sentinel, .sentinel, .sentinel, .sentinel, .sentinel, .sentinel], laidTests := true, laidLooks := .later }
def ConfigBoundsCardSaid : Prop := Claim7.holds Tryd.pinned (.plain (OpenSpec.ofChange configBoundsSpec)) configBoundsCard

/-- THE SECOND FORM's CARD OF 'dynamolaw25.ShedSays'. -/
def shedSaysUptoCard : Claim7 := { stood := { row := shedSaysUptoRow, standIns := [], harness := (true, "b778282588b830765d194572f129c322bf10f745170cf5f37c4e858440bd7c0c"), looks := true }, kinds := [], alts := [], laidByText := true, laidKinds := [.data], laidTests := true, laidLooks := .later }
def ShedSaysUptoCardSaid : Prop := Claim7.holds Tryd.pinned (.plain (OpenSpec.upto shedSaysSpec)) shedSaysUptoCard

/-- THE SECOND FORM's CARD OF 'dynamolaw25.ShedKeeps'. -/
def shedKeepsUptoCard : Claim7 := { stood := { row := shedKeepsUptoRow, standIns := [], harness := (true, "b778282588b830765d194572f129c322bf10f745170cf5f37c4e858440bd7c0c"), looks := true }, kinds := [], alts := [], laidByText := true, laidKinds := [.data], laidTests := true, laidLooks := .later }
def ShedKeepsUptoCardSaid : Prop := Claim7.holds Tryd.pinned (.plain (OpenSpec.upto shedKeepsSpec)) shedKeepsUptoCard

/-- THE SECOND FORM's CARD OF 'dynamolaw25.ShedRooms'. -/
def shedRoomsUptoCard : Claim7 := { stood := { row := shedRoomsUptoRow, standIns := [], harness := (true, "b778282588b830765d194572f129c322bf10f745170cf5f37c4e858440bd7c0c"), looks := true }, kinds := [], alts := [], laidByText := true, laidKinds := [.data], laidTests := true, laidLooks := .later }
def ShedRoomsUptoCardSaid : Prop := Claim7.holds Tryd.pinned (.plain (OpenSpec.upto shedRoomsSpec)) shedRoomsUptoCard

/-- THE SECOND FORM's CARD OF 'dynamolaw25.ShedTrips'. -/
def shedTripsUptoCard : Claim7 := { stood := { row := shedTripsUptoRow, standIns := [], harness := (true, "b778282588b830765d194572f129c322bf10f745170cf5f37c4e858440bd7c0c"), looks := true }, kinds := [], alts := [], laidByText := true, laidKinds := [.data], laidTests := true, laidLooks := .later }
def ShedTripsUptoCardSaid : Prop := Claim7.holds Tryd.pinned (.plain (OpenSpec.upto shedTripsSpec)) shedTripsUptoCard

/-- THE SECOND FORM's CARD OF 'dynamolaw25.ShedBacks'. -/
def shedBacksUptoCard : Claim7 := { stood := { row := shedBacksUptoRow, standIns := [], harness := (true, "b778282588b830765d194572f129c322bf10f745170cf5f37c4e858440bd7c0c"), looks := true }, kinds := [], alts := [], laidByText := true, laidKinds := [.data], laidTests := true, laidLooks := .later }
def ShedBacksUptoCardSaid : Prop := Claim7.holds Tryd.pinned (.plain (OpenSpec.upto shedBacksSpec)) shedBacksUptoCard

/-- THE SECOND FORM's CARD OF 'dynamolaw25.ShedLoads'. -/
def shedLoadsUptoCard : Claim7 := { stood := { row := shedLoadsUptoRow, standIns := [], harness := (true, "b778282588b830765d194572f129c322bf10f745170cf5f37c4e858440bd7c0c"), looks := true }, kinds := [], alts := [], laidByText := true, laidKinds := [.data], laidTests := true, laidLooks := .later }
def ShedLoadsUptoCardSaid : Prop := Claim7.holds Tryd.pinned (.plain (OpenSpec.upto shedLoadsSpec)) shedLoadsUptoCard

/-- THE SECOND FORM's CARD OF 'dynamolaw25.ShedCharges'. -/
def shedChargesUptoCard : Claim7 := { stood := { row := shedChargesUptoRow, standIns := [], harness := (true, "b778282588b830765d194572f129c322bf10f745170cf5f37c4e858440bd7c0c"), looks := true }, kinds := [], alts := [], laidByText := true, laidKinds := [.data], laidTests := true, laidLooks := .later }
def ShedChargesUptoCardSaid : Prop := Claim7.holds Tryd.pinned (.plain (OpenSpec.upto shedChargesSpec)) shedChargesUptoCard

/-- THE SECOND FORM's CARD OF 'dynamolaw27.ConfigSays'. -/
def configSaysUptoCard : Claim7 := { stood := { row := configSaysUptoRow, standIns := [], harness := (true, "b778282588b830765d194572f129c322bf10f745170cf5f37c4e858440bd7c0c"), looks := true }, kinds := [], alts := [], laidByText := true, laidKinds := [.sentinel, .sentinel, .sentinel, .sentinel, .sentinel, .sentinel, .sentinel], laidTests := true, laidLooks := .later }
def ConfigSaysUptoCardSaid : Prop := Claim7.holds Tryd.pinned (.plain (OpenSpec.upto configSaysSpec)) configSaysUptoCard

/-- THE SECOND FORM's CARD OF 'dynamolaw27.ConfigOne'. -/
def configOneUptoCard : Claim7 := { stood := { row := configOneUptoRow, standIns := [], harness := (true, "b778282588b830765d194572f129c322bf10f745170cf5f37c4e858440bd7c0c"), looks := true }, kinds := [], alts := [], laidByText := true, laidKinds := [.sentinel, .sentinel, .sentinel, .sentinel, .sentinel, .sentinel, .sentinel], laidTests := true, laidLooks := .later }
def ConfigOneUptoCardSaid : Prop := Claim7.holds Tryd.pinned (.plain (OpenSpec.upto configOneSpec)) configOneUptoCard

/-- THE SECOND FORM's CARD OF 'dynamolaw27.ConfigParts'. -/
def configPartsUptoCard : Claim7 := { stood := { row := configPartsUptoRow, standIns := [], harness := (true, "b778282588b830765d194572f129c322bf10f745170cf5f37c4e858440bd7c0c"), looks := true }, kinds := [], alts := [], laidByText := true, laidKinds := [.sentinel, .sentinel, .sentinel, .sentinel, .sentinel, .sentinel, .sentinel], laidTests := true, laidLooks := .later }
def ConfigPartsUptoCardSaid : Prop := Claim7.holds Tryd.pinned (.plain (OpenSpec.upto configPartsSpec)) configPartsUptoCard

/-- THE SECOND FORM's CARD OF 'dynamolaw27.ConfigBounds'. -/
def configBoundsUptoCard : Claim7 := { stood := { row := configBoundsUptoRow, standIns := [], harness := (true, "b778282588b830765d194572f129c322bf10f745170cf5f37c4e858440bd7c0c"), looks := true }, kinds := [], alts := [], laidByText := true, laidKinds := [.sentinel, .sentinel, .sentinel, .sentinel, .sentinel, .sentinel, .sentinel], laidTests := true, laidLooks := .later }
def ConfigBoundsUptoCardSaid : Prop := Claim7.holds Tryd.pinned (.plain (OpenSpec.upto configBoundsSpec)) configBoundsUptoCard
end Rows
end Go.Proofs.YtbeemfkndpandaaDoor
