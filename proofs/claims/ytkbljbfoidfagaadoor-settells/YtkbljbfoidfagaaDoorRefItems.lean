/-
  Contracts of the document's own answers for sets, those that make rows: Bits, Items, First, Same.
-/
import Derived.Test.YtkbljbfoidfagaaDoorRefSet
import Derived.Deep.QuietTactic
import Derived.BigQuiet
namespace Go.Proofs.YtkbljbfoidfagaaDoor
open Go.RowKit
/-- of the first k numbers whether each is in; then false. -/
def bitArr (x k : Nat) : Array Value := ((List.range 64).map fun i => Value.bool (decide (i < k) && x.testBit i)).toArray
theorem bitArr_size (x k : Nat) : (bitArr x k).size = 64 := by simp [bitArr]
theorem bitArr_get (x k i : Nat) (h : i < 64) : (bitArr x k)[i]? = some (.bool (decide (i < k) && x.testBit i)) := by simp [bitArr, h]
theorem bitArr_zero (x : Nat) : bitArr x 0 = Array.replicate 64 (Value.bool false) := by
  apply Array.ext_getElem?
  intro i
  by_cases h : i < 64
  · rw [bitArr_get x 0 i h]; simp [h]
  · rw [Array.getElem?_eq_none (by rw [bitArr_size]; omega), Array.getElem?_eq_none (by simp; omega)]
theorem bitArr_step (x k : Nat) : (bitArr x k).setIfInBounds k (.bool (x.testBit k)) = bitArr x (k + 1) := by
  apply Array.ext_getElem?
  intro i
  by_cases h : i < 64
  · rw [Array.getElem?_setIfInBounds, bitArr_get x (k + 1) i h, bitArr_get x k i h]
    by_cases e : k = i
    · subst e
      simp [bitArr_size, h]
    · have : (decide (i < k + 1)) = decide (i < k) := by rw [decide_eq_decide]; omega
      simp [e, this]
  · rw [Array.getElem?_eq_none (by simp [bitArr_size]; omega), Array.getElem?_eq_none (by rw [bitArr_size]; omega)]
theorem bitArr_one (x k : Nat) : (bitArr x k).all (·.oneCell') = true := by
  rw [Array.all_eq_true]
  intro i hi
  rw [bitArr_size] at hi
  have := bitArr_get x k i hi
  rw [Array.getElem?_eq_getElem (by rw [bitArr_size]; exact hi)] at this
  injection this with this
  rw [this]; rfl
theorem boolarr_info : (Tryd.prog.info? 42).map (·.size) = some 64 := by kernel_rfl
theorem heap_set {w : World} {g i : Nat} {cs : Array Value} {t : TypeId} {fr : Nat × Nat} {v : Value} (h : w.heap[g]? = some (.cells cs t fr)) : (w.setCell ⟨g, i, none⟩ v).heap[g]? = some (.cells (cs.setIfInBounds i v) t fr) := by
  simp [World.setCell, Array.getElem?_modify, h]
theorem frozen_of_row {w : World} {g i : Nat} {cs : Array Value} {t : TypeId} (h : w.heap[g]? = some (.cells cs t (0, 0))) : w.frozen? ⟨g, i, none⟩ = false := by simp [World.frozen?, h]
def hv (x k : Nat) : Nat := x / pw k
theorem hv_half (x k : Nat) : ((hv x k : Nat) : Int) / 2 = ((hv x (k + 1) : Nat) : Int) := by
  have : hv x (k + 1) = hv x k / 2 := by
    unfold hv pw
    rw [Nat.pow_succ, Nat.div_div_eq_div_mul]
  rw [this]; rfl
theorem hv_test (x k : Nat) : ((((hv x k : Nat) : Int) % 2 : Int) == 1) = x.testBit k := by
  rw [← test_div x k]
  unfold hv
  rw [Int.natCast_ediv]
theorem hv_lt {x : Nat} (k : Nat) (h : x < 18446744073709551616) : hv x k < 18446744073709551616 := Nat.lt_of_le_of_lt (Nat.div_le_self _ _) h
theorem hv_zero (x : Nat) : hv x 0 = x := by simp [hv, pw]
def BitsRel (x : Nat) (w : World) (s i : Value) (wr : World) : Prop :=
  ∃ k : Nat, k ≤ 64 ∧ i = .int .i64 k ∧ s = .int .u64 (hv x k : Nat) ∧ wr.heap[w.heap.size]? = some (.cells (bitArr x 0) 42 (0, 0)) ∧
    wr.heap[w.heap.size + 1]? = some (.cells (bitArr x k) 42 (0, 0)) ∧ Below w.heap.size w wr
set_option maxHeartbeats 1000000 in
set_option maxRecDepth 100000 in
theorem bits_any (x : Nat) (w : World) (hx : x < 18446744073709551616) :
    Calls Tryd.prog 25 #[.int .u64 x] w fun e w' => e = .returned (.agg (bitArr x 64)) ∧ Below w.heap.size w w' := by
  go_enter Tryd.func25, Tryd.ntmps25
  go_wp2
  go_loopw [0, 4] (BitsRel x w) (fun _ i _ => 64 - (intOf i).toNat)
  case atStart =>
    refine ⟨0, by omega, rfl, ?_, ?_, ?_, ((Below.refl _ _).alloc (Nat.le_refl _) _).alloc (by simp) _⟩
    · rw [hv_zero]
    · rw [heap_alloc2_old, bitArr_zero]; rfl
    · rw [heap_alloc2_new, bitArr_zero]; rfl
  case round =>
    obtain ⟨k, hk, rfl, rfl, hh0, hh1, hb⟩ := hrel
    have H0 := Lib.hid hh0
    have H1 := Lib.hid hh1
    by_cases hlt : k < 64
    · have hc : wr.cell? ⟨w.heap.size + 1, k, none⟩ = some (.bool (decide (k < k) && x.testBit k)) := by
        rw [cell_of_row _ _ _ _ _ _ hh1, bitArr_get x k k hlt]
      have hf : wr.frozen? ⟨w.heap.size + 1, k, none⟩ = false := frozen_of_row hh1
      clear hh0 hh1
      have hq := hv_lt k hx
      have HT := Lib.hid (hv_test x k)
      have HS := Lib.hid (hv_half x k)
      go_wp2
      rw [HT.out, HS.out]
      refine ⟨⟨k + 1, by omega, by go_num, rfl, ?_, ?_, hb.setCell (by simp) _⟩, by simp [intOf]; omega⟩
      · rw [Below.heap_setCell _ _ _ _ (by simp)]; exact H0.out
      · rw [heap_set H1.out, bitArr_step]
    · obtain rfl : k = 64 := by omega
      clear hh0 hh1
      go_wp2_with (first
        | (refine wpList_load_row (o := ⟨some 16, _, _, _, _, _⟩) rfl 42 (.tmp 3) rfl (w.heap.size + 1) rfl 42 (bitArr x 64) (0, 0) _ H1.out Tryd.underlying42 rfl (by rw [bitArr_size]; exact boolarr_info) ?_)
        | (refine wpList_store_row rfl 42 (.tmp 2) (.tmp 16) rfl w.heap.size (bitArr x 64) rfl rfl 42 (bitArr x 0) H0.out (by rw [bitArr_size]; exact boolarr_info) (by rw [bitArr_size, bitArr_size]) (bitArr_one _ _) ?_))
      refine bodyPost_ret (v := .agg (bitArr x 64)) (results_cell_row rfl _ _ w.heap.size 42 (bitArr x 64) (0, 0) _ rfl (setRow_heap _ _ _ _ _ _ H0.out) Tryd.underlying42 rfl (by rw [bitArr_size]; exact boolarr_info)) rfl ⟨rfl, ?_⟩
      exact ⟨hb.os, hb.tape, hb.output, by simpa [World.setRow] using hb.size, fun i hi => (setRow_other _ _ _ _ (by omega)).trans (hb.block i hi)⟩
theorem setRow_below {B g : Nat} {a w : World} {cs : Array Value} (h : Below B a w) (hg : B ≤ g) : Below B a (w.setRow g cs) :=
  ⟨h.os, h.tape, h.output, by simpa [World.setRow] using h.size, fun i hi => (setRow_other _ _ _ _ (by omega)).trans (h.block i hi)⟩
theorem own_mono {w : World} {base base' : Nat} {e : TypeId} {size : Nat} {v : Value} {n : Nat} {xs : List Value} (h : w.ownsRow base e size v n xs) (hb : base' ≤ base) : w.ownsRow base' e size v n xs := by
  refine ⟨h.1, ?_⟩
  rcases h.2 with h | ⟨g, cap, cur, h1, h2, h3⟩
  · exact .inl h
  · exact .inr ⟨g, cap, cur, h1, by omega, h3⟩
def itemsTo (x k : Nat) : List Nat := (List.range k).filter fun i => x.testBit i
theorem itemsTo_yes {x k : Nat} (h : x.testBit k = true) : itemsTo x (k + 1) = itemsTo x k ++ [k] := by simp [itemsTo, List.range_succ, List.filter_append, h]
theorem itemsTo_no {x k : Nat} (h : x.testBit k = false) : itemsTo x (k + 1) = itemsTo x k := by simp [itemsTo, List.range_succ, List.filter_append, h]
theorem itemsTo_len (x k : Nat) : (itemsTo x k).length ≤ k := by
  have := List.length_filter_le (fun i => x.testBit i) (List.range k)
  simpa [itemsTo] using this
def RItemsRel (x B : Nat) (w : World) (v i : Value) (wr : World) : Prop :=
  ∃ k : Nat, k ≤ 64 ∧ i = .int .i64 k ∧ wr.ownsRow (B + 1) 3 1 v (itemsTo x k).length (vals (itemsTo x k)) ∧ wr.heap[B]? = some (.cells (bitArr x 64) 42 (0, 0)) ∧ Below w.heap.size w wr ∧ B + 1 ≤ wr.heap.size
set_option maxHeartbeats 1000000 in
set_option maxRecDepth 100000 in
theorem ritems_any (x : Nat) (w : World) (hx : x < 18446744073709551616) : Calls Tryd.prog 17 #[.int .u64 x] w (ItemsPost x w) := by
  obtain ⟨i0, hi, hz0, hz1, hz2⟩ := info_parts int_info
  go_enter Tryd.func17, Tryd.ntmps17
  go_wp2_with fail
  refine (bits_any _ _ hx).mono ?_
  rintro e w1 ⟨rfl, hb1⟩
  go_wp2_with (refine wpList_store_row rfl 42 (.tmp 4) (.tmp 7) rfl w1.heap.size (bitArr x 64) rfl rfl 42 _ (heap_alloc_new _ _) (by rw [bitArr_size]; exact boolarr_info) (by rw [bitArr_size]; rfl) (bitArr_one _ _) ?_)
  go_loopw [3, 5] (RItemsRel x w1.heap.size w) (fun _ i _ => 64 - (intOf i).toNat)
  case atStart =>
    refine ⟨0, by omega, rfl, World.ownsRow_nil _ _ _ _, setRow_heap _ _ _ _ _ _ (heap_alloc_new _ _), ?_, by simp⟩
    exact setRow_below (hb1.alloc hb1.size _) hb1.size
  case round =>
    obtain ⟨k, hk, rfl, hown, hhp, hb, hsz⟩ := hrel
    have HO := Lib.hid hown
    have HH := Lib.hid hhp
    have hlen := itemsTo_len x k
    clear hown
    by_cases hlt : k < 64
    · have hc : wr.cell? ⟨w1.heap.size, k, none⟩ = some (.bool (x.testBit k)) := by
        rw [cell_of_row _ _ _ _ _ _ hhp, bitArr_get x 64 k hlt, decide_eq_true hlt, Bool.true_and]
      clear hhp
      cases ht : x.testBit k
      · rw [ht] at hc
        have HN := Lib.hid (itemsTo_no ht)
        clear ht
        go_wp2
        refine ⟨⟨k + 1, by omega, by go_num, by rw [HN.out]; exact HO.out, HH.out, hb, hsz⟩, by simp [intOf]; omega⟩
      · rw [ht] at hc
        have HN := Lib.hid (itemsTo_yes ht)
        clear ht
        go_wp2_with (at_builtin; refine wpList_append_own _ rfl _ _ 23 rfl (w1.heap.size + 1) 3 i0 (.int .i64 0) 1 8 Tryd.underlying23 hi hz0 hz1 hz2 rfl (by decide) _ _ _ rfl (HO.out.alloc _) ⟨wr.heap.size, 0, none⟩ 1 1 [.int .i64 (k : Nat)] rfl rfl ?c1 ?c2 ?c3 ?c4 ?c5 ?_)
        case c1 =>
          intro j u hj
          match j, hj with
          | 0, hj => simp at hj; subst hj; simp [Addr.add]
        case c2 => intro u hu; simp at hu; subst hu; rfl
        case c3 => unfold maxLen; omega
        case c4 => omega
        case c5 => simp; omega
        intro v' w2 hown' hgrow _
        have HO' := Lib.hid hown'
        have hlo := hb1.size
        have hbel' : Below w.heap.size w w2 := (hb.alloc hb.size _).grown hgrow (by have := hb.size; simp; omega) (fun j hj => by have := (HO.out.lt j hj).1; omega)
        have hhp' : w2.heap[w1.heap.size]? = some (.cells (bitArr x 64) 42 (0, 0)) := by
          have h1 := hgrow.block w1.heap.size (by simp; omega) (fun e => by have := (HO.out.lt _ e.symm).1; omega)
          rw [h1, Below.heap_alloc _ _ _ (by omega)]
          exact HH.out
        have hsz' : w1.heap.size + 1 ≤ w2.heap.size := by have := hgrow.size; simp at this; omega
        clear hown' hgrow
        go_wp2
        refine ⟨⟨k + 1, by omega, by go_num, ?_, hhp', hbel', hsz'⟩, by simp [intOf]; omega⟩
        rw [HN.out, List.length_append]
        have e : vals (itemsTo x k ++ [k]) = vals (itemsTo x k) ++ [Value.int IntKind.i64 (k : Nat)] := by simp [vals]
        rw [e]; exact HO'.out
    · obtain rfl : k = 64 := by omega
      clear hhp
      go_wp2
      go_ret
      exact ⟨_, rfl, own_mono HO.out (by have := hb1.size; omega), hb⟩
end Go.Proofs.YtkbljbfoidfagaaDoor
