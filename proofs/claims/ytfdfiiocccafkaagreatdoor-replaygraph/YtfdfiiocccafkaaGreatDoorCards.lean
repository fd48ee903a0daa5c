/-
  DERIVED. GIVEN WITH THE SEED: THE CARDS: each row of YtfdfiiocccafkaaGreatDoorRows.lean that lists a variable, with what it lists TIED to the program's text (the seventh form; the later family's looks); each row that meets fmt, with fmt's text TOLD by the authors' own Lean function (tested against real Go, not proved from fmt's source: count such statements apart). THE CARD IS WHAT COUNTS. Prove the row's statement (the work); the ties are given (YtfdfiiocccafkaaGreatDoorTie.lean); close each card by the builder's one call (the guide's Derived/Test/ToyasCard.lean, 'card_holds'). Laid BY PROGRAM, IN A SANDBOX (cutbox-door.mjs). By AI agents, Wed Nov 11 2026. No macro, syntax, notation, axiom, sorry.
-/
import Derived.Test.YtfdfiiocccafkaaGreatDoorRows
import GoSem.ClaimSeven
namespace Go.Proofs.YtfdfiiocccafkaaGreatDoor
namespace Rows

/-- THE TIED CARD OF 'warpbeamlaw10.ReplayGraph'. -/
def replayGraphCard : Claim7 := { stood := { row := replayGraphRow, standIns := [], harness := (true, "9951578075f398776c5d9334177226759559abcf423fa75777f73a47aad296d2"), looks := false }, kinds := [], alts := [], laidByText := true, laidKinds := [.data], laidTests := true, laidLooks := .later }
def ReplayGraphCardSaid : Prop := Claim7.holds Tryz.pinned (.plain (OpenSpec.ofChange replayGraphSpec)) replayGraphCard

/-- THE TIED CARD OF 'warpbeamlaw09.GraphActs'. -/
def graphActsCard : Claim7 := { stood := { row := graphActsRow, standIns := [], harness := (true, "9951578075f398776c5d9334177226759559abcf423fa75777f73a47aad296d2"), looks := false }, kinds := [], alts := [], laidByText := true, laidKinds := [.data], laidTests := true, laidLooks := .later }
def GraphActsCardSaid : Prop := Claim7.holds Tryz.pinned (.plain (OpenSpec.ofChange graphActsSpec)) graphActsCard

/-- THE SECOND FORM's CARD OF 'warpbeamlaw10.ReplayGraph'. -/
def replayGraphUptoCard : Claim7 := { stood := { row := replayGraphUptoRow, standIns := [], harness := (true, "9951578075f398776c5d9334177226759559abcf423fa75777f73a47aad296d2"), looks := false }, kinds := [], alts := [], laidByText := true, laidKinds := [.data], laidTests := true, laidLooks := .later }
def ReplayGraphUptoCardSaid : Prop := Claim7.holds Tryz.pinned (.plain (OpenSpec.upto replayGraphSpec)) replayGraphUptoCard

/-- THE SECOND FORM's CARD OF 'warpbeamlaw09.GraphActs'. -/
def graphActsUptoCard : Claim7 := { stood := { row := graphActsUptoRow, standIns := [], harness := (true, "9951578075f398776c5d9334177226759559abcf423fa75777f73a47aad296d2"), looks := false }, kinds := [], alts := [], laidByText := true, laidKinds := [.data], laidTests := true, laidLooks := .later }
def GraphActsUptoCardSaid : Prop := Claim7.holds Tryz.pinned (.plain (OpenSpec.upto graphActsSpec)) graphActsUptoCard
end Rows
end Go.Proofs.YtfdfiiocccafkaaGreatDoor
