/-
  No cell of these rows narrows 'for every input' (looked for: loops, veiled, ifaces, maps, wideKeys, modest, calm, conditions, laid).
  DERIVED. THE GIVEN ROWS OF THIS SEAT. 3 by the template 'for every input the law returns true; each argument reads behind the call as it read before'; 0 by the template 'total and deterministic' (their statements: YtaonepbongbhoaaTotals.lean).
  GIVEN WITH THE SEED: the statements are not yours to turn. If you find one false, say at which input.
  Laid BY PROGRAM, IN A SANDBOX (cutbox-rows.mjs): the forced cells as the released guide's own fill.sh prints them over the translation 444397e866df2995… (all of the seat's roots in one cut). By AI agents, Wed Nov 11 2026. No macro, syntax, notation, axiom, sorry.
-/
import Derived.Test.YtaonepbongbhoaaChecked
import GoSem.Claim
import GoSem.ClaimJoined
import GoSem.ClaimMapViews
import Derived.JoinedTies
import Derived.KernelRfl
namespace Go.Proofs.Ytaonepbongbhoaa
/- THE CELL 'sum', in the pinned program and in every row, IS THE sha256 OF THE DUMP (.gsa) THAT YtaonepbongbhoaaProg.lean LOADS. Nothing in Lean hashes anything: it is a label: what it is worth is what the hold of that sum in a sandbox is worth. -/
noncomputable def Try.pinned : Pinned := { name := "ytaonepbongbhoaa", sum := "444397e866df299506902f1727a71968e72665f456f5dedf8cddbcf36d3b40cc", checked := Try.checked }
namespace Rows
def none {H : Type} : Left H := { results := [], args := [] }

/-- 'warpbeamlaw12.JudgeWhole': WHATEVER THE INPUT: true; the input reads as it did. -/
def judgeWholeSpec : ChangeSpec := { name := "judgeWhole", fn := fun _ => fun
  | [d1, d2] => { results := [.lit (.bool true)], args := [d1, d2] }
  | _ => none }
def judgeWholeRow : OpenClaim := { program := "ytaonepbongbhoaa", sum := "444397e866df299506902f1727a71968e72665f456f5dedf8cddbcf36d3b40cc", func := "warpbeam/warpbeamlaw12.JudgeWhole", spec := "judgeWhole", inPlace := ["math.archTrunc", "math.Float64bits", "math.Float64frombits"], unfollowed := true, recurses := true, plainKeys := false, apart := false }
def JudgeWholeSaid : Prop := judgeWholeRow.holds Try.pinned (OpenSpec.ofChange judgeWholeSpec)

/-- ITS FALSE NEIGHBOUR: 'it returns false'. Refute it at one input. -/
def judgeWholeWrong : ChangeSpec := { name := "judgeWhole", fn := fun _ => fun
  | [d1, d2] => { results := [.lit (.bool false)], args := [d1, d2] }
  | _ => none }
def JudgeWholeWrongFalsely : Prop := judgeWholeRow.holds Try.pinned (OpenSpec.ofChange judgeWholeWrong)

/-- 'warpbeamlaw12.JudgeTurns': WHATEVER THE INPUT: true; the input reads as it did. -/
def judgeTurnsSpec : ChangeSpec := { name := "judgeTurns", fn := fun _ => fun
  | [d1, d2] => { results := [.lit (.bool true)], args := [d1, d2] }
  | _ => none }
def judgeTurnsRow : OpenClaim := { program := "ytaonepbongbhoaa", sum := "444397e866df299506902f1727a71968e72665f456f5dedf8cddbcf36d3b40cc", func := "warpbeam/warpbeamlaw12.JudgeTurns", spec := "judgeTurns", inPlace := ["math.archTrunc", "math.Float64bits", "math.Float64frombits"], unfollowed := true, recurses := true, plainKeys := false, apart := false }
def JudgeTurnsSaid : Prop := judgeTurnsRow.holds Try.pinned (OpenSpec.ofChange judgeTurnsSpec)

/-- ITS FALSE NEIGHBOUR: 'it returns false'. Refute it at one input. -/
def judgeTurnsWrong : ChangeSpec := { name := "judgeTurns", fn := fun _ => fun
  | [d1, d2] => { results := [.lit (.bool false)], args := [d1, d2] }
  | _ => none }
def JudgeTurnsWrongFalsely : Prop := judgeTurnsRow.holds Try.pinned (OpenSpec.ofChange judgeTurnsWrong)

/-- 'warpbeamlaw12.JudgeReads': WHATEVER THE INPUT: true; the input reads as it did. -/
def judgeReadsSpec : ChangeSpec := { name := "judgeReads", fn := fun _ => fun
  | [d1, d2] => { results := [.lit (.bool true)], args := [d1, d2] }
  | _ => none }
def judgeReadsRow : OpenClaim := { program := "ytaonepbongbhoaa", sum := "444397e866df299506902f1727a71968e72665f456f5dedf8cddbcf36d3b40cc", func := "warpbeam/warpbeamlaw12.JudgeReads", spec := "judgeReads", inPlace := ["math.archTrunc", "math.Float64bits", "math.Float64frombits"], unfollowed := true, recurses := true, plainKeys := false, apart := false }
def JudgeReadsSaid : Prop := judgeReadsRow.holds Try.pinned (OpenSpec.ofChange judgeReadsSpec)

/-- ITS FALSE NEIGHBOUR: 'it returns false'. Refute it at one input. -/
def judgeReadsWrong : ChangeSpec := { name := "judgeReads", fn := fun _ => fun
  | [d1, d2] => { results := [.lit (.bool false)], args := [d1, d2] }
  | _ => none }
def JudgeReadsWrongFalsely : Prop := judgeReadsRow.holds Try.pinned (OpenSpec.ofChange judgeReadsWrong)

/- THE SECOND FORM. 'bulk': how many values and letters a reading holds, each counted each time it is reached (what is shared counts as often as it is met; a slice's spare places count too). A statement '..UptoSaid' is the law's where the arguments, and the package variables that the reading takes, are together of bulk at most 1048576: NARROWER than '..Said'. Prove '..Said' where nothing that the law and all that it calls make is longer than what came in: it says more and counts as full. Else prove '..UptoSaid'. A law counts once. -/
mutual
def uptoBulk {H : Type} : DataW H → Nat
  | .lit (.string bytes) => bytes.length + 1
  | .lit _ => 1
  | .nil => 1
  | .ptr d => uptoBulk d + 1
  | .slice elems spare => uptoBulkAll elems + uptoBulkAll spare + 1
  | .agg parts => uptoBulkAll parts + 1
  | .iface _ d => uptoBulk d + 1
  | .map entries => uptoBulkEntries entries + 1
  | .held _ => 1
def uptoBulkAll {H : Type} : List (DataW H) → Nat
  | [] => 0
  | d :: r => uptoBulk d + uptoBulkAll r
def uptoBulkEntries {H : Type} : List (Lit × DataW H) → Nat
  | [] => 0
  | x :: r => uptoBulkEntry x + uptoBulkEntries r
def uptoBulkEntry {H : Type} : Lit × DataW H → Nat
  | (.string bytes, d) => bytes.length + uptoBulk d + 1
  | (_, d) => uptoBulk d + 1
 end
def uptoSmall : (H : Type) → List (DataW H) → Bool := fun _ ds => decide (uptoBulkAll ds ≤ 1048576)
def OpenSpec.upto (s : _root_.Go.ChangeSpec) : _root_.Go.OpenSpec := { _root_.Go.OpenSpec.ofChange s with cond := some uptoSmall }

/-- 'warpbeamlaw12.JudgeWhole', WHERE WHAT IT READS IS OF BULK AT MOST 1048576: true; the input reads as it did. -/
def judgeWholeUptoRow : OpenClaim := { program := "ytaonepbongbhoaa", sum := "444397e866df299506902f1727a71968e72665f456f5dedf8cddbcf36d3b40cc", func := "warpbeam/warpbeamlaw12.JudgeWhole", spec := "judgeWhole", inPlace := ["math.archTrunc", "math.Float64bits", "math.Float64frombits"], unfollowed := true, recurses := true, plainKeys := false, apart := false, narrowed := true }
def JudgeWholeUptoSaid : Prop := judgeWholeUptoRow.holds Try.pinned (OpenSpec.upto judgeWholeSpec)

/-- 'warpbeamlaw12.JudgeTurns', WHERE WHAT IT READS IS OF BULK AT MOST 1048576: true; the input reads as it did. -/
def judgeTurnsUptoRow : OpenClaim := { program := "ytaonepbongbhoaa", sum := "444397e866df299506902f1727a71968e72665f456f5dedf8cddbcf36d3b40cc", func := "warpbeam/warpbeamlaw12.JudgeTurns", spec := "judgeTurns", inPlace := ["math.archTrunc", "math.Float64bits", "math.Float64frombits"], unfollowed := true, recurses := true, plainKeys := false, apart := false, narrowed := true }
def JudgeTurnsUptoSaid : Prop := judgeTurnsUptoRow.holds Try.pinned (OpenSpec.upto judgeTurnsSpec)

/-- 'warpbeamlaw12.JudgeReads', WHERE WHAT IT READS IS OF BULK AT MOST 1048576: true; the input reads as it did. -/
def judgeReadsUptoRow : OpenClaim := { program := "ytaonepbongbhoaa", sum := "444397e866df299506902f1727a71968e72665f456f5dedf8cddbcf36d3b40cc", func := "warpbeam/warpbeamlaw12.JudgeReads", spec := "judgeReads", inPlace := ["math.archTrunc", "math.Float64bits", "math.Float64frombits"], unfollowed := true, recurses := true, plainKeys := false, apart := false, narrowed := true }
def JudgeReadsUptoSaid : Prop := judgeReadsUptoRow.holds Try.pinned (OpenSpec.upto judgeReadsSpec)

end Rows
end Go.Proofs.Ytaonepbongbhoaa
