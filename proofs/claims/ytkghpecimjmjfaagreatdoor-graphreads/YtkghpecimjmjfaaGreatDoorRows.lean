/-
  NARROWER THAN 'FOR EVERY INPUT', by the rows' own cells (each row's printed sentence says how): GraphActs: laid · GraphLegal: laid · GraphTime: laid · GraphEmpty: laid · GraphRefuses: laid · GraphNobody: laid · GraphReads: laid.
  DERIVED. THE GIVEN ROWS OF THIS SEAT. 7 by the template 'for every input the law returns true; each argument reads behind the call as it read before'; 0 by the template 'total and deterministic' (their statements: YtkghpecimjmjfaaGreatDoorTotals.lean).
  GIVEN WITH THE SEED: the statements are not yours to turn. If you find one false, say at which input.
  Laid BY PROGRAM, IN A SANDBOX (cutbox-rows.mjs): the forced cells as the released guide's own fill.sh prints them over the translation 2c94bc3b937e6c07… (all of the seat's roots in one cut). By AI agents, Wed Nov 11 2026. No macro, syntax, notation, axiom, sorry.
-/
import Derived.Test.YtkghpecimjmjfaaGreatDoorChecked
import GoSem.Claim
import GoSem.ClaimJoined
import GoSem.ClaimMapViews
import Derived.JoinedTies
import Derived.KernelRfl
namespace Go.Proofs.YtkghpecimjmjfaaGreatDoor
/- THE CELL 'sum', in the pinned program and in every row, IS THE sha256 OF THE DUMP (.gsa) THAT YtkghpecimjmjfaaGreatDoorProg.lean LOADS. Nothing in Lean hashes anything: it is a label: what it is worth is what the hold of that sum in a sandbox is worth. -/
noncomputable def Tryz.pinned : Pinned := { name := "ytkghpecimjmjfaagreatdoor", sum := "2c94bc3b937e6c075609932981625c9a193b96e3329f35624d3adb326aa8a752", checked := Tryz.checked }
namespace Rows
def none {H : Type} : Left H := { results := [], args := [] }

/- WHAT THE LISTED PACKAGE-LEVEL VARIABLES READ AS WHEN THE CALL BEGINS. Each datum BY PROGRAM (the guide's laid-datum.mjs) off the statement by which the dump's own 'gosem.cut.vars' lays the variable. In a bare row this is a premise. The card (YtkghpecimjmjfaaGreatDoorCards.lean) ties it to the program's text. -/
def laid_math_bits_deBruijn64tab {H : Type} : DataW H := .agg [.lit (.int .u8 0), .lit (.int .u8 1), .lit (.int .u8 56), .lit (.int .u8 2), .lit (.int .u8 57), .lit (.int .u8 49), .lit (.int .u8 28), .lit (.int .u8 3), .lit (.int .u8 61), .lit (.int .u8 58), .lit (.int .u8 42), .lit (.int .u8 50), .lit (.int .u8 38), .lit (.int .u8 29), .lit (.int .u8 17), .lit (.int .u8 4), .lit (.int .u8 62), .lit (.int .u8 47), .lit (.int .u8 59), .lit (.int .u8 36), .lit (.int .u8 45), .lit (.int .u8 43), .lit (.int .u8 51), .lit (.int .u8 22), .lit (.int .u8 53), .lit (.int .u8 39), .lit (.int .u8 33), .lit (.int .u8 30), .lit (.int .u8 24), .lit (.int .u8 18), .lit (.int .u8 12), .lit (.int .u8 5), .lit (.int .u8 63), .lit (.int .u8 55), .lit (.int .u8 48), .lit (.int .u8 27), .lit (.int .u8 60), .lit (.int .u8 41), .lit (.int .u8 37), .lit (.int .u8 16), .lit (.int .u8 46), .lit (.int .u8 35), .lit (.int .u8 44), .lit (.int .u8 21), .lit (.int .u8 52), .lit (.int .u8 32), .lit (.int .u8 23), .lit (.int .u8 11), .lit (.int .u8 54), .lit (.int .u8 26), .lit (.int .u8 40), .lit (.int .u8 15), .lit (.int .u8 34), .lit (.int .u8 20), .lit (.int .u8 31), .lit (.int .u8 10), .lit (.int .u8 25), .lit (.int .u8 14), .lit (.int .u8 19), .lit (.int .u8 9), .lit (.int .u8 13), .lit (.int .u8 8), .lit (.int .u8 7), .lit (.int .u8 6)]

/-- 'warpbeamlaw09.GraphActs': WHATEVER THE INPUT: true; the input reads as it did. -/
def graphActsSpec : ChangeSpec := { name := "graphActs", fn := fun _ => fun
  | [d1, d2, d3] => { results := [.lit (.bool true)], args := [d1, d2, d3] }
  | _ => none }
def graphActsRow : OpenClaim := { program := "ytkghpecimjmjfaagreatdoor", sum := "2c94bc3b937e6c075609932981625c9a193b96e3329f35624d3adb326aa8a752", func := "warpbeam/warpbeamlaw09.GraphActs", spec := "graphActs", unfollowed := true, recurses := true, named := ["math/bits.deBruijn64tab"], plainKeys := false, apart := false, laid := [("math/bits.deBruijn64tab", laid_math_bits_deBruijn64tab)] }
def GraphActsSaid : Prop := graphActsRow.holds Tryz.pinned (OpenSpec.ofChange graphActsSpec)

/-- ITS FALSE NEIGHBOUR: 'it returns false'. Refute it at one input. -/
def graphActsWrong : ChangeSpec := { name := "graphActs", fn := fun _ => fun
  | [d1, d2, d3] => { results := [.lit (.bool false)], args := [d1, d2, d3] }
  | _ => none }
def GraphActsWrongFalsely : Prop := graphActsRow.holds Tryz.pinned (OpenSpec.ofChange graphActsWrong)

/-- 'warpbeamlaw09.GraphLegal': WHATEVER THE INPUT: true; the input reads as it did. -/
def graphLegalSpec : ChangeSpec := { name := "graphLegal", fn := fun _ => fun
  | [d1, d2, d3] => { results := [.lit (.bool true)], args := [d1, d2, d3] }
  | _ => none }
def graphLegalRow : OpenClaim := { program := "ytkghpecimjmjfaagreatdoor", sum := "2c94bc3b937e6c075609932981625c9a193b96e3329f35624d3adb326aa8a752", func := "warpbeam/warpbeamlaw09.GraphLegal", spec := "graphLegal", unfollowed := true, recurses := true, named := ["math/bits.deBruijn64tab"], plainKeys := false, apart := false, laid := [("math/bits.deBruijn64tab", laid_math_bits_deBruijn64tab)] }
def GraphLegalSaid : Prop := graphLegalRow.holds Tryz.pinned (OpenSpec.ofChange graphLegalSpec)

/-- ITS FALSE NEIGHBOUR: 'it returns false'. Refute it at one input. -/
def graphLegalWrong : ChangeSpec := { name := "graphLegal", fn := fun _ => fun
  | [d1, d2, d3] => { results := [.lit (.bool false)], args := [d1, d2, d3] }
  | _ => none }
def GraphLegalWrongFalsely : Prop := graphLegalRow.holds Tryz.pinned (OpenSpec.ofChange graphLegalWrong)

/-- 'warpbeamlaw09.GraphTime': WHATEVER THE INPUT: true; the input reads as it did. -/
def graphTimeSpec : ChangeSpec := { name := "graphTime", fn := fun _ => fun
  | [d1, d2, d3] => { results := [.lit (.bool true)], args := [d1, d2, d3] }
  | _ => none }
def graphTimeRow : OpenClaim := { program := "ytkghpecimjmjfaagreatdoor", sum := "2c94bc3b937e6c075609932981625c9a193b96e3329f35624d3adb326aa8a752", func := "warpbeam/warpbeamlaw09.GraphTime", spec := "graphTime", unfollowed := true, recurses := true, named := ["math/bits.deBruijn64tab"], plainKeys := false, apart := false, laid := [("math/bits.deBruijn64tab", laid_math_bits_deBruijn64tab)] }
def GraphTimeSaid : Prop := graphTimeRow.holds Tryz.pinned (OpenSpec.ofChange graphTimeSpec)

/-- ITS FALSE NEIGHBOUR: 'it returns false'. Refute it at one input. -/
def graphTimeWrong : ChangeSpec := { name := "graphTime", fn := fun _ => fun
  | [d1, d2, d3] => { results := [.lit (.bool false)], args := [d1, d2, d3] }
  | _ => none }
def GraphTimeWrongFalsely : Prop := graphTimeRow.holds Tryz.pinned (OpenSpec.ofChange graphTimeWrong)

/-- 'warpbeamlaw09.GraphEmpty': WHATEVER THE INPUT: true; the input reads as it did. -/
def graphEmptySpec : ChangeSpec := { name := "graphEmpty", fn := fun _ => fun
  | [d1, d2, d3] => { results := [.lit (.bool true)], args := [d1, d2, d3] }
  | _ => none }
def graphEmptyRow : OpenClaim := { program := "ytkghpecimjmjfaagreatdoor", sum := "2c94bc3b937e6c075609932981625c9a193b96e3329f35624d3adb326aa8a752", func := "warpbeam/warpbeamlaw09.GraphEmpty", spec := "graphEmpty", unfollowed := true, recurses := true, named := ["math/bits.deBruijn64tab"], plainKeys := false, apart := false, laid := [("math/bits.deBruijn64tab", laid_math_bits_deBruijn64tab)] }
def GraphEmptySaid : Prop := graphEmptyRow.holds Tryz.pinned (OpenSpec.ofChange graphEmptySpec)

/-- ITS FALSE NEIGHBOUR: 'it returns false'. Refute it at one input. -/
def graphEmptyWrong : ChangeSpec := { name := "graphEmpty", fn := fun _ => fun
  | [d1, d2, d3] => { results := [.lit (.bool false)], args := [d1, d2, d3] }
  | _ => none }
def GraphEmptyWrongFalsely : Prop := graphEmptyRow.holds Tryz.pinned (OpenSpec.ofChange graphEmptyWrong)

/-- 'warpbeamlaw09.GraphRefuses': WHATEVER THE INPUT: true; the input reads as it did. -/
def graphRefusesSpec : ChangeSpec := { name := "graphRefuses", fn := fun _ => fun
  | [d1, d2, d3] => { results := [.lit (.bool true)], args := [d1, d2, d3] }
  | _ => none }
def graphRefusesRow : OpenClaim := { program := "ytkghpecimjmjfaagreatdoor", sum := "2c94bc3b937e6c075609932981625c9a193b96e3329f35624d3adb326aa8a752", func := "warpbeam/warpbeamlaw09.GraphRefuses", spec := "graphRefuses", unfollowed := true, recurses := true, named := ["math/bits.deBruijn64tab"], plainKeys := false, apart := false, laid := [("math/bits.deBruijn64tab", laid_math_bits_deBruijn64tab)] }
def GraphRefusesSaid : Prop := graphRefusesRow.holds Tryz.pinned (OpenSpec.ofChange graphRefusesSpec)

/-- ITS FALSE NEIGHBOUR: 'it returns false'. Refute it at one input. -/
def graphRefusesWrong : ChangeSpec := { name := "graphRefuses", fn := fun _ => fun
  | [d1, d2, d3] => { results := [.lit (.bool false)], args := [d1, d2, d3] }
  | _ => none }
def GraphRefusesWrongFalsely : Prop := graphRefusesRow.holds Tryz.pinned (OpenSpec.ofChange graphRefusesWrong)

/-- 'warpbeamlaw09.GraphNobody': WHATEVER THE INPUT: true; the input reads as it did. -/
def graphNobodySpec : ChangeSpec := { name := "graphNobody", fn := fun _ => fun
  | [d1, d2] => { results := [.lit (.bool true)], args := [d1, d2] }
  | _ => none }
def graphNobodyRow : OpenClaim := { program := "ytkghpecimjmjfaagreatdoor", sum := "2c94bc3b937e6c075609932981625c9a193b96e3329f35624d3adb326aa8a752", func := "warpbeam/warpbeamlaw09.GraphNobody", spec := "graphNobody", unfollowed := true, recurses := true, named := ["math/bits.deBruijn64tab"], plainKeys := false, apart := false, laid := [("math/bits.deBruijn64tab", laid_math_bits_deBruijn64tab)] }
def GraphNobodySaid : Prop := graphNobodyRow.holds Tryz.pinned (OpenSpec.ofChange graphNobodySpec)

/-- ITS FALSE NEIGHBOUR: 'it returns false'. Refute it at one input. -/
def graphNobodyWrong : ChangeSpec := { name := "graphNobody", fn := fun _ => fun
  | [d1, d2] => { results := [.lit (.bool false)], args := [d1, d2] }
  | _ => none }
def GraphNobodyWrongFalsely : Prop := graphNobodyRow.holds Tryz.pinned (OpenSpec.ofChange graphNobodyWrong)

/-- 'warpbeamlaw09.GraphReads': WHATEVER THE INPUT: true; the input reads as it did. -/
def graphReadsSpec : ChangeSpec := { name := "graphReads", fn := fun _ => fun
  | [d1, d2, d3] => { results := [.lit (.bool true)], args := [d1, d2, d3] }
  | _ => none }
def graphReadsRow : OpenClaim := { program := "ytkghpecimjmjfaagreatdoor", sum := "2c94bc3b937e6c075609932981625c9a193b96e3329f35624d3adb326aa8a752", func := "warpbeam/warpbeamlaw09.GraphReads", spec := "graphReads", unfollowed := true, recurses := true, named := ["math/bits.deBruijn64tab"], plainKeys := false, apart := false, laid := [("math/bits.deBruijn64tab", laid_math_bits_deBruijn64tab)] }
def GraphReadsSaid : Prop := graphReadsRow.holds Tryz.pinned (OpenSpec.ofChange graphReadsSpec)

/-- ITS FALSE NEIGHBOUR: 'it returns false'. Refute it at one input. -/
def graphReadsWrong : ChangeSpec := { name := "graphReads", fn := fun _ => fun
  | [d1, d2, d3] => { results := [.lit (.bool false)], args := [d1, d2, d3] }
  | _ => none }
def GraphReadsWrongFalsely : Prop := graphReadsRow.holds Tryz.pinned (OpenSpec.ofChange graphReadsWrong)

/- THE SECOND FORM. 'bulk': how many values and letters a reading holds, each counted each time it is reached (what is shared counts as often as it is met; a slice's spare places count too). A statement '..UptoSaid' is the law's where the arguments, and the package variables that the reading takes, are together of bulk at most 1048576: NARROWER than '..Said'. Prove '..Said' where nothing that the law and all that it calls make is longer than what came in: it says more and counts as full. Else prove '..UptoSaid'. A law counts once. -/
mutual
def uptoBulk {H : Type} : DataW H → Nat
  | .lit (.string bytes) => bytes.length + 1
  | .lit _ => 1
  | .nil => 1
  | .ptr d => uptoBulk d + 1
  | .slice elems spare => uptoBulkAll elems + uptoBulkAll spare + 1
  | .agg parts => uptoBulkAll parts + 1
  | .iface _ d => uptoBulk d + 1
  | .map entries => uptoBulkEntries entries + 1
  | .held _ => 1
def uptoBulkAll {H : Type} : List (DataW H) → Nat
  | [] => 0
  | d :: r => uptoBulk d + uptoBulkAll r
def uptoBulkEntries {H : Type} : List (Lit × DataW H) → Nat
  | [] => 0
  | x :: r => uptoBulkEntry x + uptoBulkEntries r
def uptoBulkEntry {H : Type} : Lit × DataW H → Nat
  | (.string bytes, d) => bytes.length + uptoBulk d + 1
  | (_, d) => uptoBulk d + 1
 end
def uptoSmall : (H : Type) → List (DataW H) → Bool := fun _ ds => decide (uptoBulkAll ds ≤ 1048576)
def OpenSpec.upto (s : _root_.Go.ChangeSpec) : _root_.Go.OpenSpec := { _root_.Go.OpenSpec.ofChange s with cond := some uptoSmall }

/-- 'warpbeamlaw09.GraphActs', WHERE WHAT IT READS IS OF BULK AT MOST 1048576: true; the input reads as it did. -/
def graphActsUptoRow : OpenClaim := { program := "ytkghpecimjmjfaagreatdoor", sum := "2c94bc3b937e6c075609932981625c9a193b96e3329f35624d3adb326aa8a752", func := "warpbeam/warpbeamlaw09.GraphActs", spec := "graphActs", unfollowed := true, recurses := true, named := ["math/bits.deBruijn64tab"], plainKeys := false, apart := false, laid := [("math/bits.deBruijn64tab", laid_math_bits_deBruijn64tab)], narrowed := true }
def GraphActsUptoSaid : Prop := graphActsUptoRow.holds Tryz.pinned (OpenSpec.upto graphActsSpec)

/-- 'warpbeamlaw09.GraphLegal', WHERE WHAT IT READS IS OF BULK AT MOST 1048576: true; the input reads as it did. -/
def graphLegalUptoRow : OpenClaim := { program := "ytkghpecimjmjfaagreatdoor", sum := "2c94bc3b937e6c075609932981625c9a193b96e3329f35624d3adb326aa8a752", func := "warpbeam/warpbeamlaw09.GraphLegal", spec := "graphLegal", unfollowed := true, recurses := true, named := ["math/bits.deBruijn64tab"], plainKeys := false, apart := false, laid := [("math/bits.deBruijn64tab", laid_math_bits_deBruijn64tab)], narrowed := true }
def GraphLegalUptoSaid : Prop := graphLegalUptoRow.holds Tryz.pinned (OpenSpec.upto graphLegalSpec)

/-- 'warpbeamlaw09.GraphTime', WHERE WHAT IT READS IS OF BULK AT MOST 1048576: true; the input reads as it did. -/
def graphTimeUptoRow : OpenClaim := { program := "ytkghpecimjmjfaagreatdoor", sum := "2c94bc3b937e6c075609932981625c9a193b96e3329f35624d3adb326aa8a752", func := "warpbeam/warpbeamlaw09.GraphTime", spec := "graphTime", unfollowed := true, recurses := true, named := ["math/bits.deBruijn64tab"], plainKeys := false, apart := false, laid := [("math/bits.deBruijn64tab", laid_math_bits_deBruijn64tab)], narrowed := true }
def GraphTimeUptoSaid : Prop := graphTimeUptoRow.holds Tryz.pinned (OpenSpec.upto graphTimeSpec)

/-- 'warpbeamlaw09.GraphEmpty', WHERE WHAT IT READS IS OF BULK AT MOST 1048576: true; the input reads as it did. -/
def graphEmptyUptoRow : OpenClaim := { program := "ytkghpecimjmjfaagreatdoor", sum := "2c94bc3b937e6c075609932981625c9a193b96e3329f35624d3adb326aa8a752", func := "warpbeam/warpbeamlaw09.GraphEmpty", spec := "graphEmpty", unfollowed := true, recurses := true, named := ["math/bits.deBruijn64tab"], plainKeys := false, apart := false, laid := [("math/bits.deBruijn64tab", laid_math_bits_deBruijn64tab)], narrowed := true }
def GraphEmptyUptoSaid : Prop := graphEmptyUptoRow.holds Tryz.pinned (OpenSpec.upto graphEmptySpec)

/-- 'warpbeamlaw09.GraphRefuses', WHERE WHAT IT READS IS OF BULK AT MOST 1048576: true; the input reads as it did. -/
def graphRefusesUptoRow : OpenClaim := { program := "ytkghpecimjmjfaagreatdoor", sum := "2c94bc3b937e6c075609932981625c9a193b96e3329f35624d3adb326aa8a752", func := "warpbeam/warpbeamlaw09.GraphRefuses", spec := "graphRefuses", unfollowed := true, recurses := true, named := ["math/bits.deBruijn64tab"], plainKeys := false, apart := false, laid := [("math/bits.deBruijn64tab", laid_math_bits_deBruijn64tab)], narrowed := true }
def GraphRefusesUptoSaid : Prop := graphRefusesUptoRow.holds Tryz.pinned (OpenSpec.upto graphRefusesSpec)

/-- 'warpbeamlaw09.GraphNobody', WHERE WHAT IT READS IS OF BULK AT MOST 1048576: true; the input reads as it did. -/
def graphNobodyUptoRow : OpenClaim := { program := "ytkghpecimjmjfaagreatdoor", sum := "2c94bc3b937e6c075609932981625c9a193b96e3329f35624d3adb326aa8a752", func := "warpbeam/warpbeamlaw09.GraphNobody", spec := "graphNobody", unfollowed := true, recurses := true, named := ["math/bits.deBruijn64tab"], plainKeys := false, apart := false, laid := [("math/bits.deBruijn64tab", laid_math_bits_deBruijn64tab)], narrowed := true }
def GraphNobodyUptoSaid : Prop := graphNobodyUptoRow.holds Tryz.pinned (OpenSpec.upto graphNobodySpec)

/-- 'warpbeamlaw09.GraphReads', WHERE WHAT IT READS IS OF BULK AT MOST 1048576: true; the input reads as it did. -/
def graphReadsUptoRow : OpenClaim := { program := "ytkghpecimjmjfaagreatdoor", sum := "2c94bc3b937e6c075609932981625c9a193b96e3329f35624d3adb326aa8a752", func := "warpbeam/warpbeamlaw09.GraphReads", spec := "graphReads", unfollowed := true, recurses := true, named := ["math/bits.deBruijn64tab"], plainKeys := false, apart := false, laid := [("math/bits.deBruijn64tab", laid_math_bits_deBruijn64tab)], narrowed := true }
def GraphReadsUptoSaid : Prop := graphReadsUptoRow.holds Tryz.pinned (OpenSpec.upto graphReadsSpec)

end Rows
end Go.Proofs.YtkghpecimjmjfaaGreatDoor
