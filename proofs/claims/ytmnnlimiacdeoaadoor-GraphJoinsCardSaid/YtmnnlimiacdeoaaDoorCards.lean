/-
  DERIVED. GIVEN WITH THE SEED: THE CARDS: each row of YtmnnlimiacdeoaaDoorRows.lean that lists a variable, with what it lists TIED to the program's text (the seventh form; the later family's looks); each row that meets fmt, with fmt's text TOLD by the authors' own Lean function (tested against real Go, not proved from fmt's source: count such statements apart). THE CARD IS WHAT COUNTS. Prove the row's statement (the work); the ties are given (YtmnnlimiacdeoaaDoorTie.lean); close each card by the builder's one call (the guide's Derived/Test/ToyasCard.lean, 'card_holds'). Laid BY PROGRAM, IN A SANDBOX (cutbox-door.mjs). By AI agents, Wed Nov 11 2026. No macro, syntax, notation, axiom, sorry.
-/
import Derived.Test.YtmnnlimiacdeoaaDoorRows
import GoSem.ClaimSeven
namespace Go.Proofs.YtmnnlimiacdeoaaDoor
namespace Rows

/-- THE TIED CARD OF 'dynamolaw21.GraphSays'. -/
def graphSaysCard : Claim7 := { stood := { row := graphSaysRow, standIns := [], harness := (true, "311cdc51e81fe3a8a50a26acc0db53fe3b22211e47fb47f875cfea500a44fd0a"), looks := false }, kinds := [], alts := [], laidByText := true, laidKinds := [.data], laidTests := true, laidLooks := .later }
def GraphSaysCardSaid : Prop := Claim7.holds Tryd.pinned (.plain (OpenSpec.ofChange graphSaysSpec)) graphSaysCard

/-- THE TIED CARD OF 'dynamolaw21.GraphJoins'. -/
def graphJoinsCard : Claim7 := { stood := { row := graphJoinsRow, standIns := [], harness := (true, "311cdc51e81fe3a8a50a26acc0db53fe3b22211e47fb47f875cfea500a44fd0a"), looks := false }, kinds := [], alts := [], laidByText := true, laidKinds := [.data], laidTests := true, laidLooks := .later }
def GraphJoinsCardSaid : Prop := Claim7.holds Tryd.pinned (.plain (OpenSpec.ofChange graphJoinsSpec)) graphJoinsCard

/-- THE TIED CARD OF 'dynamolaw21.GraphEnds'. -/
def graphEndsCard : Claim7 := { stood := { row := graphEndsRow, standIns := [], harness := (true, "311cdc51e81fe3a8a50a26acc0db53fe3b22211e47fb47f875cfea500a44fd0a"), looks := false }, kinds := [], alts := [], laidByText := true, laidKinds := [.data], laidTests := true, laidLooks := .later }
def GraphEndsCardSaid : Prop := Claim7.holds Tryd.pinned (.plain (OpenSpec.ofChange graphEndsSpec)) graphEndsCard

/-- THE TIED CARD OF 'dynamolaw21.GraphFeeds'. -/
def graphFeedsCard : Claim7 := { stood := { row := graphFeedsRow, standIns := [], harness := (true, "311cdc51e81fe3a8a50a26acc0db53fe3b22211e47fb47f875cfea500a44fd0a"), looks := false }, kinds := [], alts := [], laidByText := true, laidKinds := [.data], laidTests := true, laidLooks := .later }
def GraphFeedsCardSaid : Prop := Claim7.holds Tryd.pinned (.plain (OpenSpec.ofChange graphFeedsSpec)) graphFeedsCard

/-- THE TIED CARD OF 'dynamolaw23.SequenceSays'. -/
def sequenceSaysCard : Claim7 := { stood := { row := sequenceSaysRow, standIns := [], harness := (true, "311cdc51e81fe3a8a50a26acc0db53fe3b22211e47fb47f875cfea500a44fd0a"), looks := false }, kinds := [], alts := [], laidByText := true, laidKinds := [.data], laidTests := true, laidLooks := .later }
def SequenceSaysCardSaid : Prop := Claim7.holds Tryd.pinned (.plain (OpenSpec.ofChange sequenceSaysSpec)) sequenceSaysCard

/-- THE TIED CARD OF 'dynamolaw23.SequenceSafe'. -/
def sequenceSafeCard : Claim7 := { stood := { row := sequenceSafeRow, standIns := [], harness := (true, "311cdc51e81fe3a8a50a26acc0db53fe3b22211e47fb47f875cfea500a44fd0a"), looks := false }, kinds := [], alts := [], laidByText := true, laidKinds := [.data], laidTests := true, laidLooks := .later }
def SequenceSafeCardSaid : Prop := Claim7.holds Tryd.pinned (.plain (OpenSpec.ofChange sequenceSafeSpec)) sequenceSafeCard

/-- THE TIED CARD OF 'dynamolaw23.SequenceTurns'. -/
def sequenceTurnsCard : Claim7 := { stood := { row := sequenceTurnsRow, standIns := [], harness := (true, "311cdc51e81fe3a8a50a26acc0db53fe3b22211e47fb47f875cfea500a44fd0a"), looks := false }, kinds := [], alts := [], laidByText := true, laidKinds := [.data], laidTests := true, laidLooks := .later }
def SequenceTurnsCardSaid : Prop := Claim7.holds Tryd.pinned (.plain (OpenSpec.ofChange sequenceTurnsSpec)) sequenceTurnsCard

/-- THE SECOND FORM's CARD OF 'dynamolaw21.GraphSays'. -/
def graphSaysUptoCard : Claim7 := { stood := { row := graphSaysUptoRow, standIns := [], harness := (true, "311cdc51e81fe3a8a50a26acc0db53fe3b22211e47fb47f875cfea500a44fd0a"), looks := false }, kinds := [], alts := [], laidByText := true, laidKinds := [.data], laidTests := true, laidLooks := .later }
def GraphSaysUptoCardSaid : Prop := Claim7.holds Tryd.pinned (.plain (OpenSpec.upto graphSaysSpec)) graphSaysUptoCard

/-- THE SECOND FORM's CARD OF 'dynamolaw21.GraphJoins'. -/
def graphJoinsUptoCard : Claim7 := { stood := { row := graphJoinsUptoRow, standIns := [], harness := (true, "311cdc51e81fe3a8a50a26acc0db53fe3b22211e47fb47f875cfea500a44fd0a"), looks := false }, kinds := [], alts := [], laidByText := true, laidKinds := [.data], laidTests := true, laidLooks := .later }
def GraphJoinsUptoCardSaid : Prop := Claim7.holds Tryd.pinned (.plain (OpenSpec.upto graphJoinsSpec)) graphJoinsUptoCard

/-- THE SECOND FORM's CARD OF 'dynamolaw21.GraphEnds'. -/
def graphEndsUptoCard : Claim7 := { stood := { row := graphEndsUptoRow, standIns := [], harness := (true, "311cdc51e81fe3a8a50a26acc0db53fe3b22211e47fb47f875cfea500a44fd0a"), looks := false }, kinds := [], alts := [], laidByText := true, laidKinds := [.data], laidTests := true, laidLooks := .later }
def GraphEndsUptoCardSaid : Prop := Claim7.holds Tryd.pinned (.plain (OpenSpec.upto graphEndsSpec)) graphEndsUptoCard

/-- THE SECOND FORM's CARD OF 'dynamolaw21.GraphFeeds'. -/
def graphFeedsUptoCard : Claim7 := { stood := { row := graphFeedsUptoRow, standIns := [], harness := (true, "311cdc51e81fe3a8a50a26acc0db53fe3b22211e47fb47f875cfea500a44fd0a"), looks := false }, kinds := [], alts := [], laidByText := true, laidKinds := [.data], laidTests := true, laidLooks := .later }
def GraphFeedsUptoCardSaid : Prop := Claim7.holds Tryd.pinned (.plain (OpenSpec.upto graphFeedsSpec)) graphFeedsUptoCard

/-- THE SECOND FORM's CARD OF 'dynamolaw23.SequenceSays'. -/
def sequenceSaysUptoCard : Claim7 := { stood := { row := sequenceSaysUptoRow, standIns := [], harness := (true, "311cdc51e81fe3a8a50a26acc0db53fe3b22211e47fb47f875cfea500a44fd0a"), looks := false }, kinds := [], alts := [], laidByText := true, laidKinds := [.data], laidTests := true, laidLooks := .later }
def SequenceSaysUptoCardSaid : Prop := Claim7.holds Tryd.pinned (.plain (OpenSpec.upto sequenceSaysSpec)) sequenceSaysUptoCard

/-- THE SECOND FORM's CARD OF 'dynamolaw23.SequenceSafe'. -/
def sequenceSafeUptoCard : Claim7 := { stood := { row := sequenceSafeUptoRow, standIns := [], harness := (true, "311cdc51e81fe3a8a50a26acc0db53fe3b22211e47fb47f875cfea500a44fd0a"), looks := false }, kinds := [], alts := [], laidByText := true, laidKinds := [.data], laidTests := true, laidLooks := .later }
def SequenceSafeUptoCardSaid : Prop := Claim7.holds Tryd.pinned (.plain (OpenSpec.upto sequenceSafeSpec)) sequenceSafeUptoCard

/-- THE SECOND FORM's CARD OF 'dynamolaw23.SequenceTurns'. -/
def sequenceTurnsUptoCard : Claim7 := { stood := { row := sequenceTurnsUptoRow, standIns := [], harness := (true, "311cdc51e81fe3a8a50a26acc0db53fe3b22211e47fb47f875cfea500a44fd0a"), looks := false }, kinds := [], alts := [], laidByText := true, laidKinds := [.data], laidTests := true, laidLooks := .later }
def SequenceTurnsUptoCardSaid : Prop := Claim7.holds Tryd.pinned (.plain (OpenSpec.upto sequenceTurnsSpec)) sequenceTurnsUptoCard
end Rows
end Go.Proofs.YtmnnlimiacdeoaaDoor
