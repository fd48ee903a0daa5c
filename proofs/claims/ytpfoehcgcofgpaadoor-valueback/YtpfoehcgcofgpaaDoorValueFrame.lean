/-
  The frame that the statements of this seat share: what the rows list of the package-level variables gives what the walks take; a world that holds it.
-/
import Derived.Test.YtpfoehcgcofgpaaDoorCards
import Derived.Test.YtpfoehcgcofgpaaDoorTie
import Derived.Test.YtpfoehcgcofgpaaDoorValueAlive
import Derived.WalkKit
import Derived.ProofKit
import Derived.OpenShut
import Derived.ShutString
import Derived.ChangeOld
import Derived.Below
import Derived.Deep.DeepHandedRow
import Derived.Lib.LaidTab
import Derived.Lib.SmallJoins
import Derived.Stop.LaidErr
import Derived.LaidLaws
namespace Go.Proofs.YtpfoehcgcofgpaaDoor
open Go.ChangeShapes Go.WideShapes Go.ChangeAt Go.RowKit
theorem own : ownKnob Tryd.prog.godebug = none := by kernel_rfl
theorem laidOut : laidOutB Tryd.prog = true := by kernel_rfl
theorem gPow : Tryd.prog.globalNamed "internal/strconv.uint64pow10" = some 0 := by kernel_rfl
theorem gPowType : (Tryd.prog.globals[0]?).map (·.type) = some 72 := by kernel_rfl
theorem cellsPow : Tryd.prog.cellsOf 72 = 20 := by kernel_rfl
theorem cellsU64 : Tryd.prog.cellsOf 63 = 1 := by kernel_rfl
theorem gSyn : Tryd.prog.globalNamed "strconv.ErrSyntax" = some 1 := by kernel_rfl
theorem gSynType : (Tryd.prog.globals[1]?).map (·.type) = some 58 := by kernel_rfl
theorem gRng : Tryd.prog.globalNamed "strconv.ErrRange" = some 2 := by kernel_rfl
theorem gRngType : (Tryd.prog.globals[2]?).map (·.type) = some 58 := by kernel_rfl
theorem cellsErr : Tryd.prog.cellsOf 96 = 1 := by kernel_rfl
theorem cellsStr : Tryd.prog.cellsOf 9 = 1 := by kernel_rfl
theorem star : "*" ++ "errors.errorString" = "*errors.errorString" := by decide
theorem rowErr (u : TypeId) (h : Tryd.prog.typeName? 3 u = some "*errors.errorString") : u = 94 :=
  typeName_ptr_named (nm := "errors.errorString") (by rw [star]; kernel_rfl) (by kernel_rfl) (by decide) u (by rw [star]; exact h)
def tabLaid : List (String × DataW Unit) := [("math/bits.deBruijn32tab", Rows.laid_math_bits_deBruijn32tab), ("math/bits.deBruijn64tab", Rows.laid_math_bits_deBruijn64tab), ("internal/strconv.uint64pow10", Rows.laid_internal_strconv_uint64pow10), ("strconv.ErrRange", Rows.laid_strconv_ErrRange), ("strconv.ErrSyntax", Rows.laid_strconv_ErrSyntax)]
theorem powData : (Rows.laid_internal_strconv_uint64pow10 : DataW Unit) = Lib.tabData .u64 Lib.pow10Tab := by kernel_rfl
theorem table {W : World} (h : laidMetH Tryd.prog tabLaid W) : Laid W := by
  have h0 : laidMet Tryd.prog tabLaid W := h
  have h3 := h0.tail.tail
  rw [powData] at h3
  have ht := Lib.tabIs_of_head gPow gPowType Tryd.underlying72 Tryd.underlying63 cellsU64 cellsPow h3
  obtain ⟨a4, s4, hv4, _⟩ := laid_sentinel h3.tail gRng gRngType Tryd.underlying58 rowErr Tryd.underlying94 Tryd.underlying96 rfl rfl Tryd.underlying9 cellsErr cellsStr
  obtain ⟨a5, s5, hv5, _⟩ := laid_sentinel h3.tail.tail gSyn gSynType Tryd.underlying58 rowErr Tryd.underlying94 Tryd.underlying96 rfl rfl Tryd.underlying9 cellsErr cellsStr
  exact ⟨ht, ⟨_, _, hv5⟩, ⟨_, _, hv4⟩⟩
def cellsOfData : DataW Unit → Array Value
  | .agg l => (l.map fun | .lit (.int k z) => Value.int k z | _ => undef).toArray
  | _ => #[]
def errText (d : DataW Unit) : Value := match d with | .iface _ (.ptr (.agg [.lit (.string l)])) => .string ⟨l.toArray⟩ | _ => undef
noncomputable def low : Nat := (World.holding Tryd.prog default ⟨#[], #[], []⟩).heap.size
noncomputable def laidWorld (os : Os) : World :=
  let w0 := World.holding Tryd.prog os ⟨#[.cells #[errText Rows.laid_strconv_ErrSyntax] 96, .cells #[errText Rows.laid_strconv_ErrRange] 96], #[], []⟩
  { w0 with heap := ((((w0.heap.modify 0 fun
      | .cells _ t frozen => .cells (cellsOfData Rows.laid_internal_strconv_uint64pow10) t frozen
      | o => o).modify 3 fun
      | .cells _ t frozen => .cells (cellsOfData Rows.laid_math_bits_deBruijn32tab) t frozen
      | o => o).modify 4 fun
      | .cells _ t frozen => .cells (cellsOfData Rows.laid_math_bits_deBruijn64tab) t frozen
      | o => o).modify 1 fun
      | .cells _ t frozen => .cells #[.iface 94 (.pointer (some ⟨low, 0, none⟩))] t frozen
      | o => o).modify 2 fun
      | .cells _ t frozen => .cells #[.iface 94 (.pointer (some ⟨low + 1, 0, none⟩))] t frozen
      | o => o }
end Go.Proofs.YtpfoehcgcofgpaaDoor
