/-
  DERIVED. GIVEN WITH THE SEED: THE CARDS: each row of YtjciikdhjgekgaaDoorRows.lean that lists a variable, with what it lists TIED to the program's text (the seventh form; the later family's looks); each row that meets fmt, with fmt's text TOLD by the authors' own Lean function (tested against real Go, not proved from fmt's source: count such statements apart). THE CARD IS WHAT COUNTS. Prove the row's statement (the work); the ties are given (YtjciikdhjgekgaaDoorTie.lean); close each card by the builder's one call (the guide's Derived/Test/ToyasCard.lean, 'card_holds'). Laid BY PROGRAM, IN A SANDBOX (cutbox-door.mjs). By AI agents, Wed Nov 11 2026. No macro, syntax, notation, axiom, sorry.
-/
import Derived.Test.YtjciikdhjgekgaaDoorRows
import GoSem.ClaimSeven
namespace Go.Proofs.YtjciikdhjgekgaaDoor
namespace Rows

/-- THE TIED CARD OF 'warpbeamlaw03.MatTells'. -/
def matTellsCard : Claim7 := { stood := { row := matTellsRow, standIns := [], harness := (true, "bf5af94aef592220d6a6b7a8d375dbc28d0fd5dbecddf08219da83881c6b2929"), looks := false }, kinds := [], alts := [], laidByText := true, laidKinds := [.data], laidTests := true, laidLooks := .later }
def MatTellsCardSaid : Prop := Claim7.holds Tryd.pinned (.plain (OpenSpec.ofChange matTellsSpec)) matTellsCard

/-- THE TIED CARD OF 'warpbeamlaw03.MatWays'. -/
def matWaysCard : Claim7 := { stood := { row := matWaysRow, standIns := [], harness := (true, "bf5af94aef592220d6a6b7a8d375dbc28d0fd5dbecddf08219da83881c6b2929"), looks := false }, kinds := [], alts := [], laidByText := true, laidKinds := [.data], laidTests := true, laidLooks := .later }
def MatWaysCardSaid : Prop := Claim7.holds Tryd.pinned (.plain (OpenSpec.ofChange matWaysSpec)) matWaysCard

/-- THE TIED CARD OF 'warpbeamlaw03.MatThrough'. -/
def matThroughCard : Claim7 := { stood := { row := matThroughRow, standIns := [], harness := (true, "bf5af94aef592220d6a6b7a8d375dbc28d0fd5dbecddf08219da83881c6b2929"), looks := false }, kinds := [], alts := [], laidByText := true, laidKinds := [.data], laidTests := true, laidLooks := .later }
def MatThroughCardSaid : Prop := Claim7.holds Tryd.pinned (.plain (OpenSpec.ofChange matThroughSpec)) matThroughCard

/-- THE TIED CARD OF 'warpbeamlaw03.MatCloses'. -/
def matClosesCard : Claim7 := { stood := { row := matClosesRow, standIns := [], harness := (true, "bf5af94aef592220d6a6b7a8d375dbc28d0fd5dbecddf08219da83881c6b2929"), looks := false }, kinds := [], alts := [], laidByText := true, laidKinds := [.data], laidTests := true, laidLooks := .later }
def MatClosesCardSaid : Prop := Claim7.holds Tryd.pinned (.plain (OpenSpec.ofChange matClosesSpec)) matClosesCard

/-- THE TIED CARD OF 'warpbeamlaw03.MatFar'. -/
def matFarCard : Claim7 := { stood := { row := matFarRow, standIns := [], harness := (true, "bf5af94aef592220d6a6b7a8d375dbc28d0fd5dbecddf08219da83881c6b2929"), looks := false }, kinds := [], alts := [], laidByText := true, laidKinds := [.data], laidTests := true, laidLooks := .later }
def MatFarCardSaid : Prop := Claim7.holds Tryd.pinned (.plain (OpenSpec.ofChange matFarSpec)) matFarCard

/-- THE TIED CARD OF 'warpbeamlaw03.MatGrows'. -/
def matGrowsCard : Claim7 := { stood := { row := matGrowsRow, standIns := [], harness := (true, "bf5af94aef592220d6a6b7a8d375dbc28d0fd5dbecddf08219da83881c6b2929"), looks := false }, kinds := [], alts := [], laidByText := true, laidKinds := [.data], laidTests := true, laidLooks := .later }
def MatGrowsCardSaid : Prop := Claim7.holds Tryd.pinned (.plain (OpenSpec.ofChange matGrowsSpec)) matGrowsCard

/-- THE TIED CARD OF 'warpbeamlaw03.MatSteps'. -/
def matStepsCard : Claim7 := { stood := { row := matStepsRow, standIns := [], harness := (true, "bf5af94aef592220d6a6b7a8d375dbc28d0fd5dbecddf08219da83881c6b2929"), looks := false }, kinds := [], alts := [], laidByText := true, laidKinds := [.data], laidTests := true, laidLooks := .later }
def MatStepsCardSaid : Prop := Claim7.holds Tryd.pinned (.plain (OpenSpec.ofChange matStepsSpec)) matStepsCard

/-- THE SECOND FORM's CARD OF 'warpbeamlaw03.MatTells'. -/
def matTellsUptoCard : Claim7 := { stood := { row := matTellsUptoRow, standIns := [], harness := (true, "bf5af94aef592220d6a6b7a8d375dbc28d0fd5dbecddf08219da83881c6b2929"), looks := false }, kinds := [], alts := [], laidByText := true, laidKinds := [.data], laidTests := true, laidLooks := .later }
def MatTellsUptoCardSaid : Prop := Claim7.holds Tryd.pinned (.plain (OpenSpec.upto matTellsSpec)) matTellsUptoCard

/-- THE SECOND FORM's CARD OF 'warpbeamlaw03.MatWays'. -/
def matWaysUptoCard : Claim7 := { stood := { row := matWaysUptoRow, standIns := [], harness := (true, "bf5af94aef592220d6a6b7a8d375dbc28d0fd5dbecddf08219da83881c6b2929"), looks := false }, kinds := [], alts := [], laidByText := true, laidKinds := [.data], laidTests := true, laidLooks := .later }
def MatWaysUptoCardSaid : Prop := Claim7.holds Tryd.pinned (.plain (OpenSpec.upto matWaysSpec)) matWaysUptoCard

/-- THE SECOND FORM's CARD OF 'warpbeamlaw03.MatThrough'. -/
def matThroughUptoCard : Claim7 := { stood := { row := matThroughUptoRow, standIns := [], harness := (true, "bf5af94aef592220d6a6b7a8d375dbc28d0fd5dbecddf08219da83881c6b2929"), looks := false }, kinds := [], alts := [], laidByText := true, laidKinds := [.data], laidTests := true, laidLooks := .later }
def MatThroughUptoCardSaid : Prop := Claim7.holds Tryd.pinned (.plain (OpenSpec.upto matThroughSpec)) matThroughUptoCard

/-- THE SECOND FORM's CARD OF 'warpbeamlaw03.MatCloses'. -/
def matClosesUptoCard : Claim7 := { stood := { row := matClosesUptoRow, standIns := [], harness := (true, "bf5af94aef592220d6a6b7a8d375dbc28d0fd5dbecddf08219da83881c6b2929"), looks := false }, kinds := [], alts := [], laidByText := true, laidKinds := [.data], laidTests := true, laidLooks := .later }
def MatClosesUptoCardSaid : Prop := Claim7.holds Tryd.pinned (.plain (OpenSpec.upto matClosesSpec)) matClosesUptoCard

/-- THE SECOND FORM's CARD OF 'warpbeamlaw03.MatFar'. -/
def matFarUptoCard : Claim7 := { stood := { row := matFarUptoRow, standIns := [], harness := (true, "bf5af94aef592220d6a6b7a8d375dbc28d0fd5dbecddf08219da83881c6b2929"), looks := false }, kinds := [], alts := [], laidByText := true, laidKinds := [.data], laidTests := true, laidLooks := .later }
def MatFarUptoCardSaid : Prop := Claim7.holds Tryd.pinned (.plain (OpenSpec.upto matFarSpec)) matFarUptoCard

/-- THE SECOND FORM's CARD OF 'warpbeamlaw03.MatGrows'. -/
def matGrowsUptoCard : Claim7 := { stood := { row := matGrowsUptoRow, standIns := [], harness := (true, "bf5af94aef592220d6a6b7a8d375dbc28d0fd5dbecddf08219da83881c6b2929"), looks := false }, kinds := [], alts := [], laidByText := true, laidKinds := [.data], laidTests := true, laidLooks := .later }
def MatGrowsUptoCardSaid : Prop := Claim7.holds Tryd.pinned (.plain (OpenSpec.upto matGrowsSpec)) matGrowsUptoCard

/-- THE SECOND FORM's CARD OF 'warpbeamlaw03.MatSteps'. -/
def matStepsUptoCard : Claim7 := { stood := { row := matStepsUptoRow, standIns := [], harness := (true, "bf5af94aef592220d6a6b7a8d375dbc28d0fd5dbecddf08219da83881c6b2929"), looks := false }, kinds := [], alts := [], laidByText := true, laidKinds := [.data], laidTests := true, laidLooks := .later }
def MatStepsUptoCardSaid : Prop := Claim7.holds Tryd.pinned (.plain (OpenSpec.upto matStepsSpec)) matStepsUptoCard
end Rows
end Go.Proofs.YtjciikdhjgekgaaDoor
