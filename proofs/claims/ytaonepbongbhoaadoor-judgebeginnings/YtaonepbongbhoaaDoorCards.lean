/-
  DERIVED. GIVEN WITH THE SEED: THE CARDS: each row of YtaonepbongbhoaaDoorRows.lean that lists a variable, with what it lists TIED to the program's text (the seventh form; the later family's looks); each row that meets fmt, with fmt's text TOLD by the authors' own Lean function (tested against real Go, not proved from fmt's source: count such statements apart). THE CARD IS WHAT COUNTS. Prove the row's statement (the work); the ties are given (YtaonepbongbhoaaDoorTie.lean); close each card by the builder's one call (the guide's Derived/Test/ToyasCard.lean, 'card_holds'). Laid BY PROGRAM, IN A SANDBOX (cutbox-door.mjs). By AI agents, Wed Nov 11 2026. No macro, syntax, notation, axiom, sorry.
-/
import Derived.Test.YtaonepbongbhoaaDoorRows
import GoSem.ClaimSeven
namespace Go.Proofs.YtaonepbongbhoaaDoor
namespace Rows

/-- THE TIED CARD OF 'warpbeamlaw12.JudgeGoes'. -/
def judgeGoesCard : Claim7 := { stood := { row := judgeGoesRow, standIns := [], harness := (true, "488777225af64dca3e394937e7a126b2d8a32181193d8a3e2aa50690632680b3"), looks := false }, kinds := [], alts := [], laidByText := true, laidKinds := [.data], laidTests := true, laidLooks := .later }
def JudgeGoesCardSaid : Prop := Claim7.holds Tryd.pinned (.plain (OpenSpec.ofChange judgeGoesSpec)) judgeGoesCard

/-- THE TIED CARD OF 'warpbeamlaw12.JudgeBeginnings'. -/
def judgeBeginningsCard : Claim7 := { stood := { row := judgeBeginningsRow, standIns := [], harness := (true, "488777225af64dca3e394937e7a126b2d8a32181193d8a3e2aa50690632680b3"), looks := false }, kinds := [], alts := [], laidByText := true, laidKinds := [.data], laidTests := true, laidLooks := .later }
def JudgeBeginningsCardSaid : Prop := Claim7.holds Tryd.pinned (.plain (OpenSpec.ofChange judgeBeginningsSpec)) judgeBeginningsCard

/-- THE SECOND FORM's CARD OF 'warpbeamlaw12.JudgeGoes'. -/
def judgeGoesUptoCard : Claim7 := { stood := { row := judgeGoesUptoRow, standIns := [], harness := (true, "488777225af64dca3e394937e7a126b2d8a32181193d8a3e2aa50690632680b3"), looks := false }, kinds := [], alts := [], laidByText := true, laidKinds := [.data], laidTests := true, laidLooks := .later }
def JudgeGoesUptoCardSaid : Prop := Claim7.holds Tryd.pinned (.plain (OpenSpec.upto judgeGoesSpec)) judgeGoesUptoCard

/-- THE SECOND FORM's CARD OF 'warpbeamlaw12.JudgeBeginnings'. -/
def judgeBeginningsUptoCard : Claim7 := { stood := { row := judgeBeginningsUptoRow, standIns := [], harness := (true, "488777225af64dca3e394937e7a126b2d8a32181193d8a3e2aa50690632680b3"), looks := false }, kinds := [], alts := [], laidByText := true, laidKinds := [.data], laidTests := true, laidLooks := .later }
def JudgeBeginningsUptoCardSaid : Prop := Claim7.holds Tryd.pinned (.plain (OpenSpec.upto judgeBeginningsSpec)) judgeBeginningsUptoCard
end Rows
end Go.Proofs.YtaonepbongbhoaaDoor
