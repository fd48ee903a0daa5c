/-
  DERIVED. GIVEN WITH THE SEED: THE CARDS: each row of YtkbljbfoidfagaaDoorRows.lean that lists a variable, with what it lists TIED to the program's text (the seventh form; the later family's looks); each row that meets fmt, with fmt's text TOLD by the authors' own Lean function (tested against real Go, not proved from fmt's source: count such statements apart). THE CARD IS WHAT COUNTS. Prove the row's statement (the work); the ties are given (YtkbljbfoidfagaaDoorTie.lean); close each card by the builder's one call (the guide's Derived/Test/ToyasCard.lean, 'card_holds'). Laid BY PROGRAM, IN A SANDBOX (cutbox-door.mjs). By AI agents, Wed Nov 11 2026. No macro, syntax, notation, axiom, sorry.
-/
import Derived.Test.YtkbljbfoidfagaaDoorRows
import GoSem.ClaimSeven
namespace Go.Proofs.YtkbljbfoidfagaaDoor
namespace Rows

/-- THE TIED CARD OF 'warpbeamlaw01.SetTells'. -/
def setTellsCard : Claim7 := { stood := { row := setTellsRow, standIns := [], harness := (true, "9508455f3ed596aa1f92b6af5939509a2aa0cab0c3d183d59682f3bd395c9e9e"), looks := false }, kinds := [], alts := [], laidByText := true, laidKinds := [.data], laidTests := true, laidLooks := .later }
def SetTellsCardSaid : Prop := Claim7.holds Tryd.pinned (.plain (OpenSpec.ofChange setTellsSpec)) setTellsCard

/-- THE TIED CARD OF 'warpbeamlaw01.SetBack'. -/
def setBackCard : Claim7 := { stood := { row := setBackRow, standIns := [], harness := (true, "9508455f3ed596aa1f92b6af5939509a2aa0cab0c3d183d59682f3bd395c9e9e"), looks := false }, kinds := [], alts := [], laidByText := true, laidKinds := [.data], laidTests := true, laidLooks := .later }
def SetBackCardSaid : Prop := Claim7.holds Tryd.pinned (.plain (OpenSpec.ofChange setBackSpec)) setBackCard

/-- THE TIED CARD OF 'warpbeamlaw01.SetApart'. -/
def setApartCard : Claim7 := { stood := { row := setApartRow, standIns := [], harness := (true, "9508455f3ed596aa1f92b6af5939509a2aa0cab0c3d183d59682f3bd395c9e9e"), looks := false }, kinds := [], alts := [], laidByText := true, laidKinds := [.data], laidTests := true, laidLooks := .later }
def SetApartCardSaid : Prop := Claim7.holds Tryd.pinned (.plain (OpenSpec.ofChange setApartSpec)) setApartCard

/-- THE TIED CARD OF 'warpbeamlaw01.SetRises'. -/
def setRisesCard : Claim7 := { stood := { row := setRisesRow, standIns := [], harness := (true, "9508455f3ed596aa1f92b6af5939509a2aa0cab0c3d183d59682f3bd395c9e9e"), looks := false }, kinds := [], alts := [], laidByText := true, laidKinds := [.data], laidTests := true, laidLooks := .later }
def SetRisesCardSaid : Prop := Claim7.holds Tryd.pinned (.plain (OpenSpec.ofChange setRisesSpec)) setRisesCard

/-- THE TIED CARD OF 'warpbeamlaw01.SetSums'. -/
def setSumsCard : Claim7 := { stood := { row := setSumsRow, standIns := [], harness := (true, "9508455f3ed596aa1f92b6af5939509a2aa0cab0c3d183d59682f3bd395c9e9e"), looks := false }, kinds := [], alts := [], laidByText := true, laidKinds := [.data], laidTests := true, laidLooks := .later }
def SetSumsCardSaid : Prop := Claim7.holds Tryd.pinned (.plain (OpenSpec.ofChange setSumsSpec)) setSumsCard

/-- THE SECOND FORM's CARD OF 'warpbeamlaw01.SetTells'. -/
def setTellsUptoCard : Claim7 := { stood := { row := setTellsUptoRow, standIns := [], harness := (true, "9508455f3ed596aa1f92b6af5939509a2aa0cab0c3d183d59682f3bd395c9e9e"), looks := false }, kinds := [], alts := [], laidByText := true, laidKinds := [.data], laidTests := true, laidLooks := .later }
def SetTellsUptoCardSaid : Prop := Claim7.holds Tryd.pinned (.plain (OpenSpec.upto setTellsSpec)) setTellsUptoCard

/-- THE SECOND FORM's CARD OF 'warpbeamlaw01.SetBack'. -/
def setBackUptoCard : Claim7 := { stood := { row := setBackUptoRow, standIns := [], harness := (true, "9508455f3ed596aa1f92b6af5939509a2aa0cab0c3d183d59682f3bd395c9e9e"), looks := false }, kinds := [], alts := [], laidByText := true, laidKinds := [.data], laidTests := true, laidLooks := .later }
def SetBackUptoCardSaid : Prop := Claim7.holds Tryd.pinned (.plain (OpenSpec.upto setBackSpec)) setBackUptoCard

/-- THE SECOND FORM's CARD OF 'warpbeamlaw01.SetApart'. -/
def setApartUptoCard : Claim7 := { stood := { row := setApartUptoRow, standIns := [], harness := (true, "9508455f3ed596aa1f92b6af5939509a2aa0cab0c3d183d59682f3bd395c9e9e"), looks := false }, kinds := [], alts := [], laidByText := true, laidKinds := [.data], laidTests := true, laidLooks := .later }
def SetApartUptoCardSaid : Prop := Claim7.holds Tryd.pinned (.plain (OpenSpec.upto setApartSpec)) setApartUptoCard

/-- THE SECOND FORM's CARD OF 'warpbeamlaw01.SetRises'. -/
def setRisesUptoCard : Claim7 := { stood := { row := setRisesUptoRow, standIns := [], harness := (true, "9508455f3ed596aa1f92b6af5939509a2aa0cab0c3d183d59682f3bd395c9e9e"), looks := false }, kinds := [], alts := [], laidByText := true, laidKinds := [.data], laidTests := true, laidLooks := .later }
def SetRisesUptoCardSaid : Prop := Claim7.holds Tryd.pinned (.plain (OpenSpec.upto setRisesSpec)) setRisesUptoCard

/-- THE SECOND FORM's CARD OF 'warpbeamlaw01.SetSums'. -/
def setSumsUptoCard : Claim7 := { stood := { row := setSumsUptoRow, standIns := [], harness := (true, "9508455f3ed596aa1f92b6af5939509a2aa0cab0c3d183d59682f3bd395c9e9e"), looks := false }, kinds := [], alts := [], laidByText := true, laidKinds := [.data], laidTests := true, laidLooks := .later }
def SetSumsUptoCardSaid : Prop := Claim7.holds Tryd.pinned (.plain (OpenSpec.upto setSumsSpec)) setSumsUptoCard
end Rows
end Go.Proofs.YtkbljbfoidfagaaDoor
