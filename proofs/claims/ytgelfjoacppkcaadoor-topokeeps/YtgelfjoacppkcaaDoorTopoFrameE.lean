/-
  The frame of the statements over rows of edges: a slice of edges opened.
-/
import Derived.Test.YtgelfjoacppkcaaDoorTopoFrame
import Derived.Test.YtgelfjoacppkcaaDoorTopoEdges
import Derived.Deep.SlicePairs
import Derived.Lib.SmallJoins
namespace Go.Proofs.YtgelfjoacppkcaaDoor
open Go.ChangeShapes Go.WideShapes Go.ChangeAt Go.RowKit
section
variable {H : Type} {enc : TypeId × Value → H} {w : World} {base : Nat} {spare : Nat → Bool} {held : Bool}
def intAt : Value → Int | .int _ z => z | _ => 0
theorem open_edges {a : Option Addr} {n c : Nat} {d : DataW H} {p : List MemPlace} (h : DataW.Trod enc Tryd.prog w base spare held 51 (.slice a n c) d p) : ∃ es, EdgesAt w a n c es := by
  obtain ⟨fuel, hf⟩ := h
  rcases Go.Deep.open_slice_pairs Tryd.underlying51 Tryd.underlying28 (by kernel_rfl) rfl rfl (by kernel_rfl) (by kernel_rfl) hf with ⟨hcs, _⟩ | ⟨x, l, cp, m, k, V0, V1, D0, D1, P0, P1, hcs, _, hl, hm, hmm, _, hcell⟩
  · simp [Value.cells] at hcs
    obtain ⟨rfl, rfl, rfl⟩ := hcs
    exact ⟨fun _ => (0, 0), Nat.le_refl _, by unfold maxLen; omega, fun h => absurd h (by decide)⟩
  · simp [Value.cells] at hcs
    obtain ⟨rfl, rfl, rfl⟩ := hcs
    refine ⟨fun i => (intAt (V0 i), intAt (V1 i)), hl, hm, fun _ => ⟨x, rfl, fun i hi => ?_⟩⟩
    have hlm : n ≤ m := by rw [hmm]; split <;> omega
    obtain ⟨h0, h1, t0, t1⟩ := hcell i (by omega)
    obtain ⟨z0, e0, _, wz0⟩ := DataW.trod_int Tryd.underlying3 t0
    obtain ⟨z1, e1, _, wz1⟩ := DataW.trod_int Tryd.underlying3 t1
    have e0 : V0 i = .int .i64 z0 := by simpa using e0
    have e1 : V1 i = .int .i64 z1 := by simpa using e1
    rw [e0] at h0
    rw [e1] at h1
    show _ ∧ _ ∧ i64p (intAt (V0 i)) ∧ i64p (intAt (V1 i))
    simp only [e0, e1, intAt]
    exact ⟨h0, h1, bounds_i64 wz0, bounds_i64 wz1⟩
end
end Go.Proofs.YtgelfjoacppkcaaDoor
