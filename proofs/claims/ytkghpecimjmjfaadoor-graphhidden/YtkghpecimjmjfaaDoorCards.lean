/-
  DERIVED. GIVEN WITH THE SEED: THE CARDS: each row of YtkghpecimjmjfaaDoorRows.lean that lists a variable, with what it lists TIED to the program's text (the seventh form; the later family's looks); each row that meets fmt, with fmt's text TOLD by the authors' own Lean function (tested against real Go, not proved from fmt's source: count such statements apart). THE CARD IS WHAT COUNTS. Prove the row's statement (the work); the ties are given (YtkghpecimjmjfaaDoorTie.lean); close each card by the builder's one call (the guide's Derived/Test/ToyasCard.lean, 'card_holds'). Laid BY PROGRAM, IN A SANDBOX (cutbox-door.mjs). By AI agents, Wed Nov 11 2026. No macro, syntax, notation, axiom, sorry.
-/
import Derived.Test.YtkghpecimjmjfaaDoorRows
import GoSem.ClaimSeven
namespace Go.Proofs.YtkghpecimjmjfaaDoor
namespace Rows

/-- THE TIED CARD OF 'warpbeamlaw09.GraphHidden'. -/
def graphHiddenCard : Claim7 := { stood := { row := graphHiddenRow, standIns := [], harness := (true, "0418c33a9961e3faf5fef5ea82886046085f783fe36d6cde3db6ae5e5072b51d"), looks := false }, kinds := [], alts := [], laidByText := true, laidKinds := [.data], laidTests := true, laidLooks := .later }
def GraphHiddenCardSaid : Prop := Claim7.holds Tryd.pinned (.plain (OpenSpec.ofChange graphHiddenSpec)) graphHiddenCard

/-- THE SECOND FORM's CARD OF 'warpbeamlaw09.GraphHidden'. -/
def graphHiddenUptoCard : Claim7 := { stood := { row := graphHiddenUptoRow, standIns := [], harness := (true, "0418c33a9961e3faf5fef5ea82886046085f783fe36d6cde3db6ae5e5072b51d"), looks := false }, kinds := [], alts := [], laidByText := true, laidKinds := [.data], laidTests := true, laidLooks := .later }
def GraphHiddenUptoCardSaid : Prop := Claim7.holds Tryd.pinned (.plain (OpenSpec.upto graphHiddenSpec)) graphHiddenUptoCard
end Rows
end Go.Proofs.YtkghpecimjmjfaaDoor
