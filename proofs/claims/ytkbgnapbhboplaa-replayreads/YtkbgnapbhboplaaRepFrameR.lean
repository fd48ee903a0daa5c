/-
  How bytes that came in are opened.
-/
import Derived.Test.YtkbgnapbhboplaaRepFrame
import Derived.Test.YtkbgnapbhboplaaReplayReads
namespace Go.Proofs.Ytkbgnapbhboplaa.Rp
open Go.ChangeShapes Go.WideShapes Go.ChangeAt Go.RowKit Tx
/-- what is told of a slice of whole numbers that came in. -/
def IsRow (k : IntKind) (w : World) (a : Option Addr) (len cap : Nat) (zs : List Int) : Prop :=
  (a = none ∧ len = 0 ∧ cap = 0 ∧ zs = []) ∨
  ∃ x, a = some x ∧ len ≤ cap ∧ cap ≤ maxLen ∧ zs.length = cap ∧ (∀ i, i < zs.length → w.cell? (x.add i) = some (.int k (zs.getD i 0))) ∧ ∀ n ∈ zs, (Lit.int k n).wf = true
theorem IsRow.bytes {w : World} {a : Option Addr} {len cap : Nat} {zs : List Int} (h : IsRow .u8 w a len cap zs) : BtAt w a len ((zs.take len).map Int.toNat) ∧ (len : Int) ≤ 9223372036854775807 := by
  rcases h with ⟨rfl, rfl, rfl, rfl⟩ | ⟨x, rfl, hl, hm, hz, hc, hw⟩
  · exact ⟨⟨rfl, fun j z hz => by simp at hz, by simp⟩, by omega⟩
  · have hlen : (zs.take len).length = len := by rw [List.length_take]; omega
    have hb : ∀ z ∈ zs, 0 ≤ z ∧ z ≤ 255 := fun z hz => bounds_u8 (hw z hz)
    refine ⟨⟨by rw [List.length_map, hlen], fun j z hz2 => ⟨x, rfl, ?_⟩, fun z hz2 => ?_⟩, by unfold maxLen at hm; omega⟩
    · rw [List.getElem?_map] at hz2
      cases e : (zs.take len)[j]? with
      | none => rw [e] at hz2; cases hz2
      | some y =>
        rw [e] at hz2
        obtain rfl : y.toNat = z := Option.some.inj hz2
        have hj := (List.getElem?_eq_some_iff.1 e).1
        rw [List.getElem?_take_of_lt (by omega)] at e
        obtain ⟨hjl, he⟩ := List.getElem?_eq_some_iff.1 e
        rw [hc j hjl, List.getD_eq_getElem?_getD, List.getElem?_eq_getElem hjl, he]
        have := hb y (by rw [← he]; exact List.getElem_mem hjl)
        simp
        omega
    · obtain ⟨y, hy, rfl⟩ := List.mem_map.1 hz2
      have := hb y (List.mem_of_mem_take hy)
      omega
end Go.Proofs.Ytkbgnapbhboplaa.Rp
