/-
  DERIVED. GIVEN WITH THE SEED: THE CARDS: each row of YtkghpecimjmjfaaGreatDoorRows.lean that lists a variable, with what it lists TIED to the program's text (the seventh form; the later family's looks); each row that meets fmt, with fmt's text TOLD by the authors' own Lean function (tested against real Go, not proved from fmt's source: count such statements apart). THE CARD IS WHAT COUNTS. Prove the row's statement (the work); the ties are given (YtkghpecimjmjfaaGreatDoorTie.lean); close each card by the builder's one call (the guide's Derived/Test/ToyasCard.lean, 'card_holds'). Laid BY PROGRAM, IN A SANDBOX (cutbox-door.mjs). By AI agents, Wed Nov 11 2026. No macro, syntax, notation, axiom, sorry.
-/
import Derived.Test.YtkghpecimjmjfaaGreatDoorRows
import GoSem.ClaimSeven
namespace Go.Proofs.YtkghpecimjmjfaaGreatDoor
namespace Rows

/-- THE TIED CARD OF 'warpbeamlaw09.GraphActs'. -/
def graphActsCard : Claim7 := { stood := { row := graphActsRow, standIns := [], harness := (true, "70019fd91c30503953ee9ad1d7f78683ef2c371e8fe35108c55683bf9087196b"), looks := false }, kinds := [], alts := [], laidByText := true, laidKinds := [.data], laidTests := true, laidLooks := .later }
def GraphActsCardSaid : Prop := Claim7.holds Tryz.pinned (.plain (OpenSpec.ofChange graphActsSpec)) graphActsCard

/-- THE TIED CARD OF 'warpbeamlaw09.GraphLegal'. -/
def graphLegalCard : Claim7 := { stood := { row := graphLegalRow, standIns := [], harness := (true, "70019fd91c30503953ee9ad1d7f78683ef2c371e8fe35108c55683bf9087196b"), looks := false }, kinds := [], alts := [], laidByText := true, laidKinds := [.data], laidTests := true, laidLooks := .later }
def GraphLegalCardSaid : Prop := Claim7.holds Tryz.pinned (.plain (OpenSpec.ofChange graphLegalSpec)) graphLegalCard

/-- THE TIED CARD OF 'warpbeamlaw09.GraphTime'. -/
def graphTimeCard : Claim7 := { stood := { row := graphTimeRow, standIns := [], harness := (true, "70019fd91c30503953ee9ad1d7f78683ef2c371e8fe35108c55683bf9087196b"), looks := false }, kinds := [], alts := [], laidByText := true, laidKinds := [.data], laidTests := true, laidLooks := .later }
def GraphTimeCardSaid : Prop := Claim7.holds Tryz.pinned (.plain (OpenSpec.ofChange graphTimeSpec)) graphTimeCard

/-- THE TIED CARD OF 'warpbeamlaw09.GraphEmpty'. -/
def graphEmptyCard : Claim7 := { stood := { row := graphEmptyRow, standIns := [], harness := (true, "70019fd91c30503953ee9ad1d7f78683ef2c371e8fe35108c55683bf9087196b"), looks := false }, kinds := [], alts := [], laidByText := true, laidKinds := [.data], laidTests := true, laidLooks := .later }
def GraphEmptyCardSaid : Prop := Claim7.holds Tryz.pinned (.plain (OpenSpec.ofChange graphEmptySpec)) graphEmptyCard

/-- THE TIED CARD OF 'warpbeamlaw09.GraphRefuses'. -/
def graphRefusesCard : Claim7 := { stood := { row := graphRefusesRow, standIns := [], harness := (true, "70019fd91c30503953ee9ad1d7f78683ef2c371e8fe35108c55683bf9087196b"), looks := false }, kinds := [], alts := [], laidByText := true, laidKinds := [.data], laidTests := true, laidLooks := .later }
def GraphRefusesCardSaid : Prop := Claim7.holds Tryz.pinned (.plain (OpenSpec.ofChange graphRefusesSpec)) graphRefusesCard

/-- THE TIED CARD OF 'warpbeamlaw09.GraphNobody'. -/
def graphNobodyCard : Claim7 := { stood := { row := graphNobodyRow, standIns := [], harness := (true, "70019fd91c30503953ee9ad1d7f78683ef2c371e8fe35108c55683bf9087196b"), looks := false }, kinds := [], alts := [], laidByText := true, laidKinds := [.data], laidTests := true, laidLooks := .later }
def GraphNobodyCardSaid : Prop := Claim7.holds Tryz.pinned (.plain (OpenSpec.ofChange graphNobodySpec)) graphNobodyCard

/-- THE TIED CARD OF 'warpbeamlaw09.GraphReads'. -/
def graphReadsCard : Claim7 := { stood := { row := graphReadsRow, standIns := [], harness := (true, "70019fd91c30503953ee9ad1d7f78683ef2c371e8fe35108c55683bf9087196b"), looks := false }, kinds := [], alts := [], laidByText := true, laidKinds := [.data], laidTests := true, laidLooks := .later }
def GraphReadsCardSaid : Prop := Claim7.holds Tryz.pinned (.plain (OpenSpec.ofChange graphReadsSpec)) graphReadsCard

/-- THE SECOND FORM's CARD OF 'warpbeamlaw09.GraphActs'. -/
def graphActsUptoCard : Claim7 := { stood := { row := graphActsUptoRow, standIns := [], harness := (true, "70019fd91c30503953ee9ad1d7f78683ef2c371e8fe35108c55683bf9087196b"), looks := false }, kinds := [], alts := [], laidByText := true, laidKinds := [.data], laidTests := true, laidLooks := .later }
def GraphActsUptoCardSaid : Prop := Claim7.holds Tryz.pinned (.plain (OpenSpec.upto graphActsSpec)) graphActsUptoCard

/-- THE SECOND FORM's CARD OF 'warpbeamlaw09.GraphLegal'. -/
def graphLegalUptoCard : Claim7 := { stood := { row := graphLegalUptoRow, standIns := [], harness := (true, "70019fd91c30503953ee9ad1d7f78683ef2c371e8fe35108c55683bf9087196b"), looks := false }, kinds := [], alts := [], laidByText := true, laidKinds := [.data], laidTests := true, laidLooks := .later }
def GraphLegalUptoCardSaid : Prop := Claim7.holds Tryz.pinned (.plain (OpenSpec.upto graphLegalSpec)) graphLegalUptoCard

/-- THE SECOND FORM's CARD OF 'warpbeamlaw09.GraphTime'. -/
def graphTimeUptoCard : Claim7 := { stood := { row := graphTimeUptoRow, standIns := [], harness := (true, "70019fd91c30503953ee9ad1d7f78683ef2c371e8fe35108c55683bf9087196b"), looks := false }, kinds := [], alts := [], laidByText := true, laidKinds := [.data], laidTests := true, laidLooks := .later }
def GraphTimeUptoCardSaid : Prop := Claim7.holds Tryz.pinned (.plain (OpenSpec.upto graphTimeSpec)) graphTimeUptoCard

/-- THE SECOND FORM's CARD OF 'warpbeamlaw09.GraphEmpty'. -/
def graphEmptyUptoCard : Claim7 := { stood := { row := graphEmptyUptoRow, standIns := [], harness := (true, "70019fd91c30503953ee9ad1d7f78683ef2c371e8fe35108c55683bf9087196b"), looks := false }, kinds := [], alts := [], laidByText := true, laidKinds := [.data], laidTests := true, laidLooks := .later }
def GraphEmptyUptoCardSaid : Prop := Claim7.holds Tryz.pinned (.plain (OpenSpec.upto graphEmptySpec)) graphEmptyUptoCard

/-- THE SECOND FORM's CARD OF 'warpbeamlaw09.GraphRefuses'. -/
def graphRefusesUptoCard : Claim7 := { stood := { row := graphRefusesUptoRow, standIns := [], harness := (true, "70019fd91c30503953ee9ad1d7f78683ef2c371e8fe35108c55683bf9087196b"), looks := false }, kinds := [], alts := [], laidByText := true, laidKinds := [.data], laidTests := true, laidLooks := .later }
def GraphRefusesUptoCardSaid : Prop := Claim7.holds Tryz.pinned (.plain (OpenSpec.upto graphRefusesSpec)) graphRefusesUptoCard

/-- THE SECOND FORM's CARD OF 'warpbeamlaw09.GraphNobody'. -/
def graphNobodyUptoCard : Claim7 := { stood := { row := graphNobodyUptoRow, standIns := [], harness := (true, "70019fd91c30503953ee9ad1d7f78683ef2c371e8fe35108c55683bf9087196b"), looks := false }, kinds := [], alts := [], laidByText := true, laidKinds := [.data], laidTests := true, laidLooks := .later }
def GraphNobodyUptoCardSaid : Prop := Claim7.holds Tryz.pinned (.plain (OpenSpec.upto graphNobodySpec)) graphNobodyUptoCard

/-- THE SECOND FORM's CARD OF 'warpbeamlaw09.GraphReads'. -/
def graphReadsUptoCard : Claim7 := { stood := { row := graphReadsUptoRow, standIns := [], harness := (true, "70019fd91c30503953ee9ad1d7f78683ef2c371e8fe35108c55683bf9087196b"), looks := false }, kinds := [], alts := [], laidByText := true, laidKinds := [.data], laidTests := true, laidLooks := .later }
def GraphReadsUptoCardSaid : Prop := Claim7.holds Tryz.pinned (.plain (OpenSpec.upto graphReadsSpec)) graphReadsUptoCard
end Rows
end Go.Proofs.YtkghpecimjmjfaaGreatDoor
