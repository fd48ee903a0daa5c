/-
  Contracts of the document's own answers for sets, those that make rows: Bits, Items, First, Same.
-/
import Derived.Test.YtcfdndppkpjleaaMRefSet
import Derived.Deep.QuietTactic
import Derived.BigQuiet
namespace Go.Proofs.Ytcfdndppkpjleaa
open Go.RowKit
/-- of the first k numbers whether each is in; then false. -/
def bitArr (x k : Nat) : Array Value := ((List.range 64).map fun i => Value.bool (decide (i < k) && x.testBit i)).toArray
theorem bitArr_size (x k : Nat) : (bitArr x k).size = 64 := by simp [bitArr]
theorem bitArr_get (x k i : Nat) (h : i < 64) : (bitArr x k)[i]? = some (.bool (decide (i < k) && x.testBit i)) := by simp [bitArr, h]
theorem bitArr_zero (x : Nat) : bitArr x 0 = Array.replicate 64 (Value.bool false) := by
  apply Array.ext_getElem?
  intro i
  by_cases h : i < 64
  · rw [bitArr_get x 0 i h]; simp [h]
  · rw [Array.getElem?_eq_none (by rw [bitArr_size]; omega), Array.getElem?_eq_none (by simp; omega)]
theorem bitArr_step (x k : Nat) : (bitArr x k).setIfInBounds k (.bool (x.testBit k)) = bitArr x (k + 1) := by
  apply Array.ext_getElem?
  intro i
  by_cases h : i < 64
  · rw [Array.getElem?_setIfInBounds, bitArr_get x (k + 1) i h, bitArr_get x k i h]
    by_cases e : k = i
    · subst e
      simp [bitArr_size, h]
    · have : (decide (i < k + 1)) = decide (i < k) := by rw [decide_eq_decide]; omega
      simp [e, this]
  · rw [Array.getElem?_eq_none (by simp [bitArr_size]; omega), Array.getElem?_eq_none (by rw [bitArr_size]; omega)]
theorem bitArr_one (x k : Nat) : (bitArr x k).all (·.oneCell') = true := by
  rw [Array.all_eq_true]
  intro i hi
  rw [bitArr_size] at hi
  have := bitArr_get x k i hi
  rw [Array.getElem?_eq_getElem (by rw [bitArr_size]; exact hi)] at this
  injection this with this
  rw [this]; rfl
theorem boolarr_info : (Try.prog.info? 86).map (·.size) = some 64 := by kernel_rfl
theorem heap_set {w : World} {g i : Nat} {cs : Array Value} {t : TypeId} {fr : Nat × Nat} {v : Value} (h : w.heap[g]? = some (.cells cs t fr)) : (w.setCell ⟨g, i, none⟩ v).heap[g]? = some (.cells (cs.setIfInBounds i v) t fr) := by
  simp [World.setCell, Array.getElem?_modify, h]
theorem frozen_of_row {w : World} {g i : Nat} {cs : Array Value} {t : TypeId} (h : w.heap[g]? = some (.cells cs t (0, 0))) : w.frozen? ⟨g, i, none⟩ = false := by simp [World.frozen?, h]
def hv (x k : Nat) : Nat := x / pw k
theorem hv_half (x k : Nat) : ((hv x k : Nat) : Int) / 2 = ((hv x (k + 1) : Nat) : Int) := by
  have : hv x (k + 1) = hv x k / 2 := by
    unfold hv pw
    rw [Nat.pow_succ, Nat.div_div_eq_div_mul]
  rw [this]; rfl
theorem hv_test (x k : Nat) : ((((hv x k : Nat) : Int) % 2 : Int) == 1) = x.testBit k := by
  rw [← test_div x k]
  unfold hv
  rw [Int.natCast_ediv]
theorem hv_lt {x : Nat} (k : Nat) (h : x < 18446744073709551616) : hv x k < 18446744073709551616 := Nat.lt_of_le_of_lt (Nat.div_le_self _ _) h
theorem hv_zero (x : Nat) : hv x 0 = x := by simp [hv, pw]
def BitsRel (x : Nat) (w : World) (s i : Value) (wr : World) : Prop :=
  ∃ k : Nat, k ≤ 64 ∧ i = .int .i64 k ∧ s = .int .u64 (hv x k : Nat) ∧ wr.heap[w.heap.size]? = some (.cells (bitArr x 0) 86 (0, 0)) ∧
    wr.heap[w.heap.size + 1]? = some (.cells (bitArr x k) 86 (0, 0)) ∧ Below w.heap.size w wr
theorem setRow_below {B g : Nat} {a w : World} {cs : Array Value} (h : Below B a w) (hg : B ≤ g) : Below B a (w.setRow g cs) :=
  ⟨h.os, h.tape, h.output, by simpa [World.setRow] using h.size, fun i hi => (setRow_other _ _ _ _ (by omega)).trans (h.block i hi)⟩
end Go.Proofs.Ytcfdndppkpjleaa
