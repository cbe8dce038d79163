/-
  DERIVED. GIVEN WITH THE SEED: THE CARDS: each row of YtiiomiekjlggfaaDoorRows.lean that lists a variable, with what it lists TIED to the program's text (the seventh form; the later family's looks); each row that meets fmt, with fmt's text TOLD by the authors' own Lean function (tested against real Go, not proved from fmt's source: count such statements apart). THE CARD IS WHAT COUNTS. Prove the row's statement (the work); the ties are given (YtiiomiekjlggfaaDoorTie.lean); close each card by the builder's one call (the guide's Derived/Test/ToyasCard.lean, 'card_holds'). Laid BY PROGRAM, IN A SANDBOX (cutbox-door.mjs). By AI agents, Wed Nov 11 2026. No macro, syntax, notation, axiom, sorry.
-/
import Derived.Test.YtiiomiekjlggfaaDoorRows
import GoSem.ClaimSeven
namespace Go.Proofs.YtiiomiekjlggfaaDoor
namespace Rows

/-- THE TIED CARD OF 'dynamolaw8.PilotSays'. -/
def pilotSaysCard : Claim7 := { stood := { row := pilotSaysRow, standIns := [], harness := (true, "c2939f4c8a5c6c6659c85b2b02aa929960a6ab0da676a5e65eb9e3e1e80953a4"), looks := true }, kinds := [], alts := [], laidByText := true, laidKinds := [.sentinel, .sentinel, .sentinel, .sentinel, .sentinel, .sentinel, .sentinel], laidTests := true, laidLooks := .later }
def PilotSaysCardSaid : Prop := Claim7.holds Tryd.pinned (.plain (OpenSpec.ofChange pilotSaysSpec)) pilotSaysCard

/-- THE TIED CARD OF 'dynamolaw8.PilotLands'. -/
def pilotLandsCard : Claim7 := { stood := { row := pilotLandsRow, standIns := [], harness := (true, "c2939f4c8a5c6c6659c85b2b02aa929960a6ab0da676a5e65eb9e3e1e80953a4"), looks := true }, kinds := [], alts := [], laidByText := true, laidKinds := [.sentinel, .sentinel, .sentinel], laidTests := true, laidLooks := .later }
def PilotLandsCardSaid : Prop := Claim7.holds Tryd.pinned (.plain (OpenSpec.ofChange pilotLandsSpec)) pilotLandsCard

/-- THE TIED CARD OF 'dynamolaw8.PilotBodies'. -/
def pilotBodiesCard : Claim7 := { stood := { row := pilotBodiesRow, standIns := [], harness := (true, "c2939f4c8a5c6c6659c85b2b02aa929960a6ab0da676a5e65eb9e3e1e80953a4"), looks := true }, kinds := [], alts := [], laidByText := true, laidKinds := [.sentinel, .sentinel, .sentinel, .sentinel, .sentinel, .sentinel, .sentinel], laidTests := true, laidLooks := .later }
def PilotBodiesCardSaid : Prop := Claim7.holds Tryd.pinned (.plain (OpenSpec.ofChange pilotBodiesSpec)) pilotBodiesCard

/-- THE TIED CARD OF 'dynamolaw9.ActUnlike'. -/
def actUnlikeCard : Claim7 := { stood := { row := actUnlikeRow, standIns := [], harness := (true, "c2939f4c8a5c6c6659c85b2b02aa929960a6ab0da676a5e65eb9e3e1e80953a4"), looks := true }, kinds := [], alts := [], laidByText := true, laidKinds := [.sentinel], laidTests := true, laidLooks := .later }
def ActUnlikeCardSaid : Prop := Claim7.holds Tryd.pinned (.plain (OpenSpec.ofChange actUnlikeSpec)) actUnlikeCard

/-- THE TIED CARD OF 'dynamolaw9.ActSays'. -/
def actSaysCard : Claim7 := { stood := { row := actSaysRow, standIns := [], harness := (true, "c2939f4c8a5c6c6659c85b2b02aa929960a6ab0da676a5e65eb9e3e1e80953a4"), looks := true }, kinds := [], alts := [], laidByText := true, laidKinds := [.sentinel, .sentinel, .sentinel, .sentinel, .sentinel, .sentinel, .sentinel], laidTests := true, laidLooks := .later }
def ActSaysCardSaid : Prop := Claim7.holds Tryd.pinned (.plain (OpenSpec.ofChange actSaysSpec)) actSaysCard

/-- THE TIED CARD OF 'dynamolaw9.ActBack'. -/
def actBackCard : Claim7 := { stood := { row := actBackRow, standIns := [], harness := (true, "c2939f4c8a5c6c6659c85b2b02aa929960a6ab0da676a5e65eb9e3e1e80953a4"), looks := true }, kinds := [], alts := [], laidByText := true, laidKinds := [.sentinel, .sentinel, .sentinel, .sentinel, .sentinel, .sentinel, .sentinel], laidTests := true, laidLooks := .later }
def ActBackCardSaid : Prop := Claim7.holds Tryd.pinned (.plain (OpenSpec.ofChange actBackSpec)) actBackCard

/-- THE TIED CARD OF 'dynamolaw9.ActBounds'. -/
def actBoundsCard : Claim7 := { stood := { row := actBoundsRow, standIns := [], harness := (true, "c2939f4c8a5c6c6659c85b2b02aa929960a6ab0da676a5e65eb9e3e1e80953a4"), looks := true }, kinds := [], alts := [], laidByText := true, laidKinds := [.sentinel, .sentinel, .sentinel, .sentinel, .sentinel, .sentinel, .sentinel], laidTests := true, laidLooks := .later }
def ActBoundsCardSaid : Prop := Claim7.holds Tryd.pinned (.plain (OpenSpec.ofChange actBoundsSpec)) actBoundsCard

/-- THE TIED CARD OF 'dynamolaw7.SensorSays'. -/
def sensorSaysCard : Claim7 := { stood := { row := sensorSaysRow, standIns := [], harness := (true, "c2939f4c8a5c6c6659c85b2b02aa929960a6ab0da676a5e65eb9e3e1e80953a4"), looks := true }, kinds := [], alts := [], laidByText := true, laidKinds := [.sentinel, .sentinel, .sentinel, .sentinel, .sentinel, .sentinel, .sentinel], laidTests := true, laidLooks := .later }
def SensorSaysCardSaid : Prop := Claim7.holds Tryd.pinned (.plain (OpenSpec.ofChange sensorSaysSpec)) sensorSaysCard

/-- THE TIED CARD OF 'dynamolaw7.SensorBack'. -/
def sensorBackCard : Claim7 := { stood := { row := sensorBackRow, standIns := [], harness := (true, "c2939f4c8a5c6c6659c85b2b02aa929960a6ab0da676a5e65eb9e3e1e80953a4"), looks := true }, kinds := [], alts := [], laidByText := true, laidKinds := [.sentinel, .sentinel, .sentinel, .sentinel, .sentinel, .sentinel, .sentinel], laidTests := true, laidLooks := .later }
def SensorBackCardSaid : Prop := Claim7.holds Tryd.pinned (.plain (OpenSpec.ofChange sensorBackSpec)) sensorBackCard

/-- THE TIED CARD OF 'dynamolaw7.SensorBodies'. -/
def sensorBodiesCard : Claim7 := { stood := { row := sensorBodiesRow, standIns := [], harness := (true, "c2939f4c8a5c6c6659c85b2b02aa929960a6ab0da676a5e65eb9e3e1e80953a4"), looks := true }, kinds := [], alts := [], laidByText := true, laidKinds := [.sentinel, .sentinel, .sentinel, .sentinel, .sentinel, .sentinel, .sentinel], laidTests := true, laidLooks := .later }
def SensorBodiesCardSaid : Prop := Claim7.holds Tryd.pinned (.plain (OpenSpec.ofChange sensorBodiesSpec)) sensorBodiesCard

/-- THE SECOND FORM's CARD OF 'dynamolaw8.PilotSays'. -/
def pilotSaysUptoCard : Claim7 := { stood := { row := pilotSaysUptoRow, standIns := [], harness := (true, "c2939f4c8a5c6c6659c85b2b02aa929960a6ab0da676a5e65eb9e3e1e80953a4"), looks := true }, kinds := [], alts := [], laidByText := true, laidKinds := [.sentinel, .sentinel, .sentinel, .sentinel, .sentinel, .sentinel, .sentinel], laidTests := true, laidLooks := .later }
def PilotSaysUptoCardSaid : Prop := Claim7.holds Tryd.pinned (.plain (OpenSpec.upto pilotSaysSpec)) pilotSaysUptoCard

/-- THE SECOND FORM's CARD OF 'dynamolaw8.PilotLands'. -/
def pilotLandsUptoCard : Claim7 := { stood := { row := pilotLandsUptoRow, standIns := [], harness := (true, "c2939f4c8a5c6c6659c85b2b02aa929960a6ab0da676a5e65eb9e3e1e80953a4"), looks := true }, kinds := [], alts := [], laidByText := true, laidKinds := [.sentinel, .sentinel, .sentinel], laidTests := true, laidLooks := .later }
def PilotLandsUptoCardSaid : Prop := Claim7.holds Tryd.pinned (.plain (OpenSpec.upto pilotLandsSpec)) pilotLandsUptoCard

/-- THE SECOND FORM's CARD OF 'dynamolaw8.PilotBodies'. -/
def pilotBodiesUptoCard : Claim7 := { stood := { row := pilotBodiesUptoRow, standIns := [], harness := (true, "c2939f4c8a5c6c6659c85b2b02aa929960a6ab0da676a5e65eb9e3e1e80953a4"), looks := true }, kinds := [], alts := [], laidByText := true, laidKinds := [.sentinel, .sentinel, .sentinel, .sentinel, .sentinel, .sentinel, .sentinel], laidTests := true, laidLooks := .later }
def PilotBodiesUptoCardSaid : Prop := Claim7.holds Tryd.pinned (.plain (OpenSpec.upto pilotBodiesSpec)) pilotBodiesUptoCard

/-- THE SECOND FORM's CARD OF 'dynamolaw9.ActUnlike'. -/
def actUnlikeUptoCard : Claim7 := { stood := { row := actUnlikeUptoRow, standIns := [], harness := (true, "c2939f4c8a5c6c6659c85b2b02aa929960a6ab0da676a5e65eb9e3e1e80953a4"), looks := true }, kinds := [], alts := [], laidByText := true, laidKinds := [.sentinel], laidTests := true, laidLooks := .later }
def ActUnlikeUptoCardSaid : Prop := Claim7.holds Tryd.pinned (.plain (OpenSpec.upto actUnlikeSpec)) actUnlikeUptoCard

/-- THE SECOND FORM's CARD OF 'dynamolaw9.ActSays'. -/
def actSaysUptoCard : Claim7 := { stood := { row := actSaysUptoRow, standIns := [], harness := (true, "c2939f4c8a5c6c6659c85b2b02aa929960a6ab0da676a5e65eb9e3e1e80953a4"), looks := true }, kinds := [], alts := [], laidByText := true, laidKinds := [.sentinel, .sentinel, .sentinel, .sentinel, .sentinel, .sentinel, .sentinel], laidTests := true, laidLooks := .later }
def ActSaysUptoCardSaid : Prop := Claim7.holds Tryd.pinned (.plain (OpenSpec.upto actSaysSpec)) actSaysUptoCard

/-- THE SECOND FORM's CARD OF 'dynamolaw9.ActBack'. -/
def actBackUptoCard : Claim7 := { stood := { row := actBackUptoRow, standIns := [], harness := (true, "c2939f4c8a5c6c6659c85b2b02aa929960a6ab0da676a5e65eb9e3e1e80953a4"), looks := true }, kinds := [], alts := [], laidByText := true, laidKinds := [.sentinel, .sentinel, .sentinel, .sentinel, .sentinel, .sentinel, .sentinel], laidTests := true, laidLooks := .later }
def ActBackUptoCardSaid : Prop := Claim7.holds Tryd.pinned (.plain (OpenSpec.upto actBackSpec)) actBackUptoCard

/-- THE SECOND FORM's CARD OF 'dynamolaw9.ActBounds'. -/
def actBoundsUptoCard : Claim7 := { stood := { row := actBoundsUptoRow, standIns := [], harness := (true, "c2939f4c8a5c6c6659c85b2b02aa929960a6ab0da676a5e65eb9e3e1e80953a4"), looks := true }, kinds := [], alts := [], laidByText := true, laidKinds := [.sentinel, .sentinel, .sentinel, .sentinel, .sentinel, .sentinel, .sentinel], laidTests := true, laidLooks := .later }
def ActBoundsUptoCardSaid : Prop := Claim7.holds Tryd.pinned (.plain (OpenSpec.upto actBoundsSpec)) actBoundsUptoCard

/-- THE SECOND FORM's CARD OF 'dynamolaw7.SensorSays'. -/
def sensorSaysUptoCard : Claim7 := { stood := { row := sensorSaysUptoRow, standIns := [], harness := (true, "c2939f4c8a5c6c6659c85b2b02aa929960a6ab0da676a5e65eb9e3e1e80953a4"), looks := true }, kinds := [], alts := [], laidByText := true, laidKinds := [.sentinel, .sentinel, .sentinel, .sentinel, .sentinel, .sentinel, .sentinel], laidTests := true, laidLooks := .later }
def SensorSaysUptoCardSaid : Prop := Claim7.holds Tryd.pinned (.plain (OpenSpec.upto sensorSaysSpec)) sensorSaysUptoCard

/-- THE SECOND FORM's CARD OF 'dynamolaw7.SensorBack'. -/
def sensorBackUptoCard : Claim7 := { stood := { row := sensorBackUptoRow, standIns := [], harness := (true, "c2939f4c8a5c6c6659c85b2b02aa929960a6ab0da676a5e65eb9e3e1e80953a4"), looks := true }, kinds := [], alts := [], laidByText := true, laidKinds := [.sentinel, .sentinel, .sentinel, .sentinel, .sentinel, .sentinel, .sentinel], laidTests := true, laidLooks := .later }
def SensorBackUptoCardSaid : Prop := Claim7.holds Tryd.pinned (.plain (OpenSpec.upto sensorBackSpec)) sensorBackUptoCard

/-- THE SECOND FORM's CARD OF 'dynamolaw7.SensorBodies'. -/
def sensorBodiesUptoCard : Claim7 := { stood := { row := sensorBodiesUptoRow, standIns := [], harness := (true, "c2939f4c8a5c6c6659c85b2b02aa929960a6ab0da676a5e65eb9e3e1e80953a4"), looks := true }, kinds := [], alts := [], laidByText := true, laidKinds := [.sentinel, .sentinel, .sentinel, .sentinel, .sentinel, .sentinel, .sentinel], laidTests := true, laidLooks := .later }
def SensorBodiesUptoCardSaid : Prop := Claim7.holds Tryd.pinned (.plain (OpenSpec.upto sensorBodiesSpec)) sensorBodiesUptoCard
end Rows
end Go.Proofs.YtiiomiekjlggfaaDoor
