/-
  The frame that the statements of this seat share: the table that the row lists gives the table's cells; a world that holds it.
-/
import Derived.Test.YtgelfjoacppkcaaDoorCards
import Derived.Test.YtgelfjoacppkcaaDoorTie
import Derived.Test.YtgelfjoacppkcaaDoorTopoAlive
import Derived.WalkKit
import Derived.ProofKit
import Derived.OpenShut
import Derived.ShutString
import Derived.ChangeOld
import Derived.Below
import Derived.Deep.DeepHandedRow
import Derived.Lib.LaidTab
import Derived.Lib.SmallJoins
namespace Go.Proofs.YtgelfjoacppkcaaDoor
open Go.ChangeShapes Go.WideShapes Go.ChangeAt Go.RowKit
theorem own : ownKnob Tryd.prog.godebug = none := by kernel_rfl
theorem laidOut : laidOutB Tryd.prog = true := by kernel_rfl
theorem gTab : Tryd.prog.globalNamed "math/bits.deBruijn64tab" = some 0 := by kernel_rfl
theorem gTabType : (Tryd.prog.globals[0]?).map (·.type) = some 86 := by kernel_rfl
theorem cellsTab : Tryd.prog.cellsOf 86 = 64 := by kernel_rfl
theorem cellsU8 : Tryd.prog.cellsOf 5 = 1 := by kernel_rfl
def tabInts : List Int := Lib.deBruijn64tab.map fun (k : Nat) => (k : Int)
def tabLaid : List (String × DataW Unit) := [("math/bits.deBruijn64tab", Lib.tabData .u8 tabInts)]
theorem table {W : World} (h : laidMetH Tryd.prog tabLaid W) : TabAt W := by
  have ht : Lib.TabIs Tryd.prog W "math/bits.deBruijn64tab" .u8 tabInts :=
    Lib.tabIs_of_head (rest := []) gTab gTabType Tryd.underlying86 Tryd.underlying5 cellsU8 cellsTab h
  intro j hj
  have := ht.cell gTab j (by simpa [tabInts, Lib.deBruijn64tab] using hj)
  rw [this]
  have hl : j < Lib.deBruijn64tab.length := by simpa [Lib.deBruijn64tab] using hj
  simp [tabInts, List.getD, List.getElem?_map, List.getElem?_eq_getElem hl]
noncomputable def laidWorld (os : Os) : World :=
  { World.holding Tryd.prog os ⟨#[], #[], []⟩ with heap := (World.holding Tryd.prog os ⟨#[], #[], []⟩).heap.modify 0 fun
      | .cells _ t frozen => .cells (tabInts.map fun z => Value.int .u8 z).toArray t frozen
      | o => o }
section
variable {H : Type} {enc : TypeId × Value → H} {w : World} {base : Nat} {spare : Nat → Bool} {held : Bool}
theorem open_mat {r : Reach} {b0 : Nat} {v : Value} {d : DataW H} {p : List MemPlace}
    (hv : Value.okWide Tryd.prog w r b0 24 v) (h : DataW.Trod enc Tryd.prog w base spare held 24 v d p) :
    ∃ m : Mm.Gr, v = .agg (matA m) ∧ Mm.Ok m := by
  have hC : Tryd.prog.cellsOf 24 = 32 := by kernel_rfl
  obtain ⟨cs, rfl, hsz⟩ : ∃ cs, v = .agg cs ∧ cs.size = Tryd.prog.cellsOf 24 := by
    simp only [Value.okWide, Tryd.underlying24] at hv
    obtain ⟨cs, h1, h2, _⟩ := hv
    exact ⟨cs, h1, h2⟩
  rw [hC] at hsz
  obtain ⟨fuel, hf⟩ := h
  obtain ⟨xs, n, _, _, _, hl, hi⟩ := DataW.trod_array Tryd.underlying24 hf
  have key : ∀ i, i < 32 → ∃ z : Int, cs[i]? = some (.int .u64 z) ∧ (Lit.int .u64 z).wf = true := by
    intro i hlt
    have h0 := hi i hlt
    have hx : xs[i]? = some xs[i] := List.getElem?_eq_getElem (by omega)
    rw [cells_u64, hx] at h0
    obtain ⟨z, hz, _, wz⟩ := DataW.trod_int Tryd.underlying22 h0
    refine ⟨z, ?_, wz⟩
    have h2 : ((cs.toList.drop i).take 1)[0]? = some (.int .u64 z) := by
      have e : (Value.agg cs).cells.toList = cs.toList := rfl
      rw [e, Nat.mul_one] at hz
      rw [hz]; rfl
    simpa using h2
  refine ⟨fun i => match cs[i]? with | some (.int _ z) => z.toNat | _ => 0, ?_, ?_⟩
  · congr 1
    apply Array.ext_getElem?
    intro i
    by_cases hlt : i < 32
    · rw [matA_get _ i hlt]
      obtain ⟨z, hz, wz⟩ := key i hlt
      have b := bounds_u64 wz
      rw [hz]
      simp only
      rw [Int.toNat_of_nonneg b.1]
    · rw [Array.getElem?_eq_none (by omega), Array.getElem?_eq_none (by rw [matA_size]; omega)]
  · intro i hlt
    obtain ⟨z, hz, wz⟩ := key i hlt
    have b := bounds_u64 wz
    simp only [hz]
    omega
theorem open_ord {r : Reach} {b0 : Nat} {v : Value} {d : DataW H} {p : List MemPlace}
    (hv : Value.okWide Tryd.prog w r b0 26 v) (h : DataW.Trod enc Tryd.prog w base spare held 26 v d p) :
    ∃ m : Od.O, v = .agg (ordA m) ∧ Od.Ok m := by
  have hC : Tryd.prog.cellsOf 26 = 32 := by kernel_rfl
  obtain ⟨cs, rfl, hsz⟩ : ∃ cs, v = .agg cs ∧ cs.size = Tryd.prog.cellsOf 26 := by
    simp only [Value.okWide, Tryd.underlying26] at hv
    obtain ⟨cs, h1, h2, _⟩ := hv
    exact ⟨cs, h1, h2⟩
  rw [hC] at hsz
  obtain ⟨fuel, hf⟩ := h
  obtain ⟨xs, n, _, _, _, hl, hi⟩ := DataW.trod_array Tryd.underlying26 hf
  have key : ∀ i, i < 32 → ∃ z : Int, cs[i]? = some (.int .i64 z) ∧ (Lit.int .i64 z).wf = true := by
    intro i hlt
    have h0 := hi i hlt
    have hx : xs[i]? = some xs[i] := List.getElem?_eq_getElem (by omega)
    rw [cells_int, hx] at h0
    obtain ⟨z, hz, _, wz⟩ := DataW.trod_int Tryd.underlying3 h0
    refine ⟨z, ?_, wz⟩
    have h2 : ((cs.toList.drop i).take 1)[0]? = some (.int .i64 z) := by
      have e : (Value.agg cs).cells.toList = cs.toList := rfl
      rw [e, Nat.mul_one] at hz
      rw [hz]; rfl
    simpa using h2
  refine ⟨fun i => match cs[i]? with | some (.int _ z) => z | _ => 0, ?_, ?_⟩
  · congr 1
    apply Array.ext_getElem?
    intro i
    by_cases hlt : i < 32
    · rw [ordA_get _ i hlt]
      obtain ⟨z, hz, wz⟩ := key i hlt
      rw [hz]
    · rw [Array.getElem?_eq_none (by omega), Array.getElem?_eq_none (by rw [ordA_size]; omega)]
  · intro i hlt
    obtain ⟨z, hz, wz⟩ := key i hlt
    have b := bounds_i64 wz
    simp only [hz]
    exact b
end
end Go.Proofs.YtgelfjoacppkcaaDoor
