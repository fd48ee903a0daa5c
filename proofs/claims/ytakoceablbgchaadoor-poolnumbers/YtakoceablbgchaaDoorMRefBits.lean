/-
  Contracts of the document's own answers for sets, those that make rows: Bits, Items, First, Same.
-/
import Derived.Test.YtakoceablbgchaaDoorMRefSet
import Derived.Deep.QuietTactic
import Derived.BigQuiet
namespace Go.Proofs.YtakoceablbgchaaDoor
open Go.RowKit
/-- of the first k numbers whether each is in; then false. -/
def bitArr (x k : Nat) : Array Value := ((List.range 64).map fun i => Value.bool (decide (i < k) && x.testBit i)).toArray
theorem bitArr_size (x k : Nat) : (bitArr x k).size = 64 := by simp [bitArr]
theorem bitArr_get (x k i : Nat) (h : i < 64) : (bitArr x k)[i]? = some (.bool (decide (i < k) && x.testBit i)) := by simp [bitArr, h]
theorem bitArr_zero (x : Nat) : bitArr x 0 = Array.replicate 64 (Value.bool false) := by
  apply Array.ext_getElem?
  intro i
  by_cases h : i < 64
  · rw [bitArr_get x 0 i h]; simp [h]
  · rw [Array.getElem?_eq_none (by rw [bitArr_size]; omega), Array.getElem?_eq_none (by simp; omega)]
theorem bitArr_step (x k : Nat) : (bitArr x k).setIfInBounds k (.bool (x.testBit k)) = bitArr x (k + 1) := by
  apply Array.ext_getElem?
  intro i
  by_cases h : i < 64
  · rw [Array.getElem?_setIfInBounds, bitArr_get x (k + 1) i h, bitArr_get x k i h]
    by_cases e : k = i
    · subst e
      simp [bitArr_size, h]
    · have : (decide (i < k + 1)) = decide (i < k) := by rw [decide_eq_decide]; omega
      simp [e, this]
  · rw [Array.getElem?_eq_none (by simp [bitArr_size]; omega), Array.getElem?_eq_none (by rw [bitArr_size]; omega)]
theorem bitArr_one (x k : Nat) : (bitArr x k).all (·.oneCell') = true := by
  rw [Array.all_eq_true]
  intro i hi
  rw [bitArr_size] at hi
  have := bitArr_get x k i hi
  rw [Array.getElem?_eq_getElem (by rw [bitArr_size]; exact hi)] at this
  injection this with this
  rw [this]; rfl
theorem boolarr_info : (Tryd.prog.info? 99).map (·.size) = some 64 := by kernel_rfl
theorem heap_set {w : World} {g i : Nat} {cs : Array Value} {t : TypeId} {fr : Nat × Nat} {v : Value} (h : w.heap[g]? = some (.cells cs t fr)) : (w.setCell ⟨g, i, none⟩ v).heap[g]? = some (.cells (cs.setIfInBounds i v) t fr) := by
  simp [World.setCell, Array.getElem?_modify, h]
theorem frozen_of_row {w : World} {g i : Nat} {cs : Array Value} {t : TypeId} (h : w.heap[g]? = some (.cells cs t (0, 0))) : w.frozen? ⟨g, i, none⟩ = false := by simp [World.frozen?, h]
def hv (x k : Nat) : Nat := x / pw k
theorem hv_half (x k : Nat) : ((hv x k : Nat) : Int) / 2 = ((hv x (k + 1) : Nat) : Int) := by
  have : hv x (k + 1) = hv x k / 2 := by
    unfold hv pw
    rw [Nat.pow_succ, Nat.div_div_eq_div_mul]
  rw [this]; rfl
theorem hv_test (x k : Nat) : ((((hv x k : Nat) : Int) % 2 : Int) == 1) = x.testBit k := by
  rw [← test_div x k]
  unfold hv
  rw [Int.natCast_ediv]
theorem hv_lt {x : Nat} (k : Nat) (h : x < 18446744073709551616) : hv x k < 18446744073709551616 := Nat.lt_of_le_of_lt (Nat.div_le_self _ _) h
theorem hv_zero (x : Nat) : hv x 0 = x := by simp [hv, pw]
def BitsRel (x : Nat) (w : World) (s i : Value) (wr : World) : Prop :=
  ∃ k : Nat, k ≤ 64 ∧ i = .int .i64 k ∧ s = .int .u64 (hv x k : Nat) ∧ wr.heap[w.heap.size]? = some (.cells (bitArr x 0) 99 (0, 0)) ∧
    wr.heap[w.heap.size + 1]? = some (.cells (bitArr x k) 99 (0, 0)) ∧ Below w.heap.size w wr
set_option maxHeartbeats 1000000 in
set_option maxRecDepth 100000 in
theorem bits_any (x : Nat) (w : World) (hx : x < 18446744073709551616) :
    Calls Tryd.prog 59 #[.int .u64 x] w fun e w' => e = .returned (.agg (bitArr x 64)) ∧ Below w.heap.size w w' := by
  go_enter Tryd.func59, Tryd.ntmps59
  go_wp2
  go_loopw [0, 4] (BitsRel x w) (fun _ i _ => 64 - (intOf i).toNat)
  case atStart =>
    refine ⟨0, by omega, rfl, ?_, ?_, ?_, ((Below.refl _ _).alloc (Nat.le_refl _) _).alloc (by simp) _⟩
    · rw [hv_zero]
    · rw [heap_alloc2_old, bitArr_zero]; rfl
    · rw [heap_alloc2_new, bitArr_zero]; rfl
  case round =>
    obtain ⟨k, hk, rfl, rfl, hh0, hh1, hb⟩ := hrel
    have H0 := Lib.hid hh0
    have H1 := Lib.hid hh1
    by_cases hlt : k < 64
    · have hc : wr.cell? ⟨w.heap.size + 1, k, none⟩ = some (.bool (decide (k < k) && x.testBit k)) := by
        rw [cell_of_row _ _ _ _ _ _ hh1, bitArr_get x k k hlt]
      have hf : wr.frozen? ⟨w.heap.size + 1, k, none⟩ = false := frozen_of_row hh1
      clear hh0 hh1
      have hq := hv_lt k hx
      have HT := Lib.hid (hv_test x k)
      have HS := Lib.hid (hv_half x k)
      go_wp2
      rw [HT.out, HS.out]
      refine ⟨⟨k + 1, by omega, by go_num, rfl, ?_, ?_, hb.setCell (by simp) _⟩, by simp [intOf]; omega⟩
      · rw [Below.heap_setCell _ _ _ _ (by simp)]; exact H0.out
      · rw [heap_set H1.out, bitArr_step]
    · obtain rfl : k = 64 := by omega
      clear hh0 hh1
      go_wp2_with (first
        | (refine wpList_load_row (o := ⟨some 16, _, _, _, _, _⟩) rfl 99 (.tmp 3) rfl (w.heap.size + 1) rfl 99 (bitArr x 64) (0, 0) _ H1.out Tryd.underlying99 rfl (by rw [bitArr_size]; exact boolarr_info) ?_)
        | (refine wpList_store_row rfl 99 (.tmp 2) (.tmp 16) rfl w.heap.size (bitArr x 64) rfl rfl 99 (bitArr x 0) H0.out (by rw [bitArr_size]; exact boolarr_info) (by rw [bitArr_size, bitArr_size]) (bitArr_one _ _) ?_))
      refine bodyPost_ret (v := .agg (bitArr x 64)) (results_cell_row rfl _ _ w.heap.size 99 (bitArr x 64) (0, 0) _ rfl (setRow_heap _ _ _ _ _ _ H0.out) Tryd.underlying99 rfl (by rw [bitArr_size]; exact boolarr_info)) rfl ⟨rfl, ?_⟩
      exact ⟨hb.os, hb.tape, hb.output, by simpa [World.setRow] using hb.size, fun i hi => (setRow_other _ _ _ _ (by omega)).trans (hb.block i hi)⟩
theorem setRow_below {B g : Nat} {a w : World} {cs : Array Value} (h : Below B a w) (hg : B ≤ g) : Below B a (w.setRow g cs) :=
  ⟨h.os, h.tape, h.output, by simpa [World.setRow] using h.size, fun i hi => (setRow_other _ _ _ _ (by omega)).trans (h.block i hi)⟩
end Go.Proofs.YtakoceablbgchaaDoor
