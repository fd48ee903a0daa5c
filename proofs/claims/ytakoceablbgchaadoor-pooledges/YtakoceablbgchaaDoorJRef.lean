/-
  Contracts of the document's own answers for graphs: Node, Outs, Has, Put and Cut.
  Contracts of the document's own answers for graphs: Turn, and Sum of sets.
  Contracts of the document's own answers for graphs: Reach and Free.
  Contracts of the document's own answers for orders: New, at, Right, Row, within.
  Contracts of the document's own answers for orders: within, Sorted.
-/
import Derived.Test.YtakoceablbgchaaDoorJMat
import Derived.Deep.LoopGhost
import Derived.Test.YtakoceablbgchaaDoorJTopo
namespace Go.Proofs.YtakoceablbgchaaDoor
open Go.RowKit
set_option maxHeartbeats 400000 in
theorem rnode_yes (a : Nat) (w : World) (h : a < 32) : Calls Tryd.prog 63 #[.int .i64 (a : Nat)] w fun e w' => e = .returned (.bool true) ∧ w = w' := by
  go_enter Tryd.func63, Tryd.ntmps63
  go_wp2
  go_ret
  refine ⟨ret_bool ?_, rfl⟩
  simp; omega
set_option maxHeartbeats 400000 in
theorem rnode_no (a : Int) (w : World) (h : Far a) : Calls Tryd.prog 63 #[.int .i64 a] w fun e w' => e = .returned (.bool false) ∧ w = w' := by
  obtain ⟨_, h⟩ := h
  by_cases hn : a < 0
  · have hd : decide (0 ≤ a) = false := by simp; omega
    go_enter Tryd.func63, Tryd.ntmps63
    go_wp2
    go_ret
    exact ⟨rfl, rfl⟩
  · have h0 : 0 ≤ a := by omega
    have hd : decide (a < 32) = false := by simp; omega
    go_enter Tryd.func63, Tryd.ntmps63
    go_wp2
    go_ret
    exact ⟨rfl, rfl⟩
theorem rwith_val (x k y : Nat) (w : World) (hx : x < 18446744073709551616) (hk : k < 64) (h : Sm.add x (k : Nat) = y) :
    Calls Tryd.prog 57 #[.int .u64 x, .int .i64 (k : Nat)] w fun e w' => e = .returned (.int .u64 (y : Nat)) ∧ w = w' := by
  have := rwith_any x (k : Nat) w hx (by omega) (by omega)
  rw [h] at this
  exact this
theorem rless_val (x k y : Nat) (w : World) (hx : x < 18446744073709551616) (hk : k < 64) (h : Sm.less x (k : Nat) = y) :
    Calls Tryd.prog 56 #[.int .u64 x, .int .i64 (k : Nat)] w fun e w' => e = .returned (.int .u64 (y : Nat)) ∧ w = w' := by
  have := rless_any x (k : Nat) w hx (by omega) (by omega)
  rw [h] at this
  exact this
set_option maxHeartbeats 400000 in
theorem routs_in (m : Mm.Gr) (a : Nat) (w : World) (hm : Mm.Ok m) (ha : a < 32) :
    Calls Tryd.prog 60 #[.agg (matA m), .int .i64 (a : Nat)] w fun e w' => e = .returned (.int .u64 (Mm.outs m a : Nat)) ∧ Below w.heap.size w w' := by
  have hg := matA_get m a ha
  have H2 := Lib.hid (outs_of (m := m) ha)
  have hma := hm a ha
  go_enter Tryd.func60, Tryd.ntmps60
  go_wp2_with (go_at_call 63; refine (rnode_yes _ _ ha).mono ?_; rintro e w' ⟨rfl, rfl⟩)
  go_ret
  rw [H2.out]
  exact ⟨ret_int (by omega), (Below.refl _ _).alloc (Nat.le_refl _) _⟩
set_option maxHeartbeats 400000 in
theorem routs_far (m : Mm.Gr) (a : Int) (w : World) (ha : Far a) :
    Calls Tryd.prog 60 #[.agg (matA m), .int .i64 a] w fun e w' => e = .returned (.int .u64 0) ∧ Below w.heap.size w w' := by
  go_enter Tryd.func60, Tryd.ntmps60
  go_wp2_with (go_at_call 63; refine (rnode_no _ _ ha).mono ?_; rintro e w' ⟨rfl, rfl⟩)
  go_ret
  exact ⟨rfl, (Below.refl _ _).alloc (Nat.le_refl _) _⟩
theorem edge_both {m : Mm.Gr} {a b : Nat} (hm : Mm.Ok m) (ha : a < 32) (hb : b < 32) : Sm.has (m a) (b : Nat) = edge m (a : Nat) (b : Nat) := by
  rw [Sm.has_nat b (hm a ha), ← edge_in, Sm.has_nat b (by have := Mm.outs_lt m a; omega)]
  rw [Bool.eq_iff_iff, Mm.outs_test]
  unfold Mm.E
  simp [ha, hb]
set_option maxHeartbeats 1000000 in
set_option maxRecDepth 100000 in
theorem rput_yes (m : Mm.Gr) (a b : Nat) (w : World) (hm : Mm.Ok m) (ha : a < 32) (hb : b < 32) (hab : a ≠ b) :
    Calls Tryd.prog 71 #[.agg (matA m), .int .i64 (a : Nat), .int .i64 (b : Nat)] w fun e w' => e = .returned (.tuple #[.agg (matA (Mm.put m a b)), .bool true]) ∧ Below w.heap.size w w' := by
  have hne : (((a : Nat) : Int) == ((b : Nat) : Int)) = false := by simp; omega
  have hg := matA_get m a ha
  have hma := hm a ha
  have HP := Lib.hid (matA_ext (put_eq (m := m) (a := a) (b := b)))
  have HS := Lib.hid (matA_set m a (Sm.add (m a) (b : Nat)))
  have HI := Lib.hid (rmatInfo m)
  go_enter Tryd.func71, Tryd.ntmps71
  go_wp2_with (first
    | (go_at_call 63; refine (rnode_yes _ _ (by assumption)).mono ?_; rintro e w' ⟨rfl, rfl⟩)
    | (go_at_call 57; refine (rwith_val _ _ _ _ hma (by omega) rfl).mono ?_; rintro e w' ⟨rfl, rfl⟩)
    | (refine wpList_load_row rfl 35 (.tmp 3) rfl w.heap.size rfl 35 _ (0, 0) _ (heap_alloc2_old _ _ _) Tryd.underlying35 rfl (by rw [Array.size_setIfInBounds]; exact HI.out) ?_)
    | (refine wpList_store_row rfl 35 (.tmp 6) (.tmp 29) rfl (w.heap.size + 1) _ rfl rfl 35 _ (heap_alloc2_new _ _ _) (by rw [Array.size_setIfInBounds]; exact HI.out) (by rw [Array.size_setIfInBounds, matA_size]; rfl) (by rw [HS.out]; exact matA_one _) ?_))
  rw [HS.out, HP.out]
  refine bodyPost_ret (results_row_tmp rfl _ _ (w.heap.size + 1) 35 _ (0, 0) _ _ (.bool true) rfl rfl (setRow_heap _ _ _ _ _ _ (heap_alloc2_new _ _ _)) Tryd.underlying35 (rmatInfo _)) rfl ⟨rfl, ?_⟩
  exact setRow_below (((Below.refl _ _).alloc (Nat.le_refl _) _).alloc (by simp) _) (by omega)
set_option maxHeartbeats 1000000 in
set_option maxRecDepth 100000 in
theorem rput_no1 (m : Mm.Gr) (a b : Int) (w : World) (ha : Far a) :
    Calls Tryd.prog 71 #[.agg (matA m), .int .i64 a, .int .i64 b] w fun e w' => e = .returned (.tuple #[.agg (matA m), .bool false]) ∧ Below w.heap.size w w' := by
  go_enter Tryd.func71, Tryd.ntmps71
  go_wp2_with (first
    | (go_at_call 63; refine (rnode_no _ _ ha).mono ?_; rintro e w' ⟨rfl, rfl⟩)
    | (refine wpList_load_row rfl 35 (.tmp 3) rfl w.heap.size rfl 35 (matA m) (0, 0) _ (heap_alloc2_old _ _ _) Tryd.underlying35 rfl (rmatInfo m) ?_)
    | (refine wpList_store_row rfl 35 (.tmp 6) (.tmp 21) rfl (w.heap.size + 1) (matA m) rfl rfl 35 _ (heap_alloc2_new _ _ _) (rmatInfo m) (by rw [matA_size]; rfl) (matA_one _) ?_))
  refine bodyPost_ret (results_row_tmp rfl _ _ (w.heap.size + 1) 35 (matA m) (0, 0) _ _ (.bool false) rfl rfl (setRow_heap _ _ _ _ _ _ (heap_alloc2_new _ _ _)) Tryd.underlying35 (rmatInfo _)) rfl ⟨rfl, ?_⟩
  exact setRow_below (((Below.refl _ _).alloc (Nat.le_refl _) _).alloc (by simp) _) (by omega)
set_option maxHeartbeats 1000000 in
set_option maxRecDepth 100000 in
theorem rput_no2 (m : Mm.Gr) (a : Nat) (b : Int) (w : World) (ha : a < 32) (hb : Far b) :
    Calls Tryd.prog 71 #[.agg (matA m), .int .i64 (a : Nat), .int .i64 b] w fun e w' => e = .returned (.tuple #[.agg (matA m), .bool false]) ∧ Below w.heap.size w w' := by
  go_enter Tryd.func71, Tryd.ntmps71
  go_wp2_with (first
    | (go_at_call_of 63 b; refine (rnode_no _ _ hb).mono ?_; rintro e w' ⟨rfl, rfl⟩)
    | (go_at_call 63; refine (rnode_yes _ _ ha).mono ?_; rintro e w' ⟨rfl, rfl⟩)
    | (refine wpList_load_row rfl 35 (.tmp 3) rfl w.heap.size rfl 35 (matA m) (0, 0) _ (heap_alloc2_old _ _ _) Tryd.underlying35 rfl (rmatInfo m) ?_)
    | (refine wpList_store_row rfl 35 (.tmp 6) (.tmp 21) rfl (w.heap.size + 1) (matA m) rfl rfl 35 _ (heap_alloc2_new _ _ _) (rmatInfo m) (by rw [matA_size]; rfl) (matA_one _) ?_))
  refine bodyPost_ret (results_row_tmp rfl _ _ (w.heap.size + 1) 35 (matA m) (0, 0) _ _ (.bool false) rfl rfl (setRow_heap _ _ _ _ _ _ (heap_alloc2_new _ _ _)) Tryd.underlying35 (rmatInfo _)) rfl ⟨rfl, ?_⟩
  exact setRow_below (((Below.refl _ _).alloc (Nat.le_refl _) _).alloc (by simp) _) (by omega)
set_option maxHeartbeats 1000000 in
set_option maxRecDepth 100000 in
theorem rput_no3 (m : Mm.Gr) (a : Nat) (w : World) (ha : a < 32) :
    Calls Tryd.prog 71 #[.agg (matA m), .int .i64 (a : Nat), .int .i64 (a : Nat)] w fun e w' => e = .returned (.tuple #[.agg (matA m), .bool false]) ∧ Below w.heap.size w w' := by
  go_enter Tryd.func71, Tryd.ntmps71
  go_wp2_with (first
    | (go_at_call 63; refine (rnode_yes _ _ ha).mono ?_; rintro e w' ⟨rfl, rfl⟩)
    | (refine wpList_load_row rfl 35 (.tmp 3) rfl w.heap.size rfl 35 (matA m) (0, 0) _ (heap_alloc2_old _ _ _) Tryd.underlying35 rfl (rmatInfo m) ?_)
    | (refine wpList_store_row rfl 35 (.tmp 6) (.tmp 21) rfl (w.heap.size + 1) (matA m) rfl rfl 35 _ (heap_alloc2_new _ _ _) (rmatInfo m) (by rw [matA_size]; rfl) (matA_one _) ?_))
  refine bodyPost_ret (results_row_tmp rfl _ _ (w.heap.size + 1) 35 (matA m) (0, 0) _ _ (.bool false) rfl rfl (setRow_heap _ _ _ _ _ _ (heap_alloc2_new _ _ _)) Tryd.underlying35 (rmatInfo _)) rfl ⟨rfl, ?_⟩
  exact setRow_below (((Below.refl _ _).alloc (Nat.le_refl _) _).alloc (by simp) _) (by omega)
set_option maxHeartbeats 1000000 in
set_option maxRecDepth 100000 in
theorem rcut_far (m : Mm.Gr) (a : Int) (w : World) (ha : Far a) :
    Calls Tryd.prog 40 #[.agg (matA m), .int .i64 a] w fun e w' => e = .returned (.agg (matA m)) ∧ Below w.heap.size w w' := by
  go_enter Tryd.func40, Tryd.ntmps40
  go_wp2_with (first
    | (go_at_call 63; refine (rnode_no _ _ ha).mono ?_; rintro e w' ⟨rfl, rfl⟩)
    | (refine wpList_load_row rfl 35 (.tmp 2) rfl w.heap.size rfl 35 (matA m) (0, 0) _ (heap_alloc2_old _ _ _) Tryd.underlying35 rfl (rmatInfo m) ?_)
    | (refine wpList_store_row rfl 35 (.tmp 4) (.tmp 9) rfl (w.heap.size + 1) (matA m) rfl rfl 35 _ (heap_alloc2_new _ _ _) (rmatInfo m) (by rw [matA_size]; rfl) (matA_one _) ?_))
  refine bodyPost_ret (results_cell_row rfl _ _ (w.heap.size + 1) 35 (matA m) (0, 0) _ rfl (setRow_heap _ _ _ _ _ _ (heap_alloc2_new _ _ _)) Tryd.underlying35 rfl (rmatInfo _)) rfl ⟨rfl, ?_⟩
  exact setRow_below (((Below.refl _ _).alloc (Nat.le_refl _) _).alloc (by simp) _) (by omega)
theorem rsub_key (x : Nat) : (x : Int) - (x : Int) % 4294967296 = ((x - x % 4294967296 : Nat) : Int) := by omega
set_option maxHeartbeats 1000000 in
set_option maxRecDepth 100000 in
theorem rcut_in (m : Mm.Gr) (a : Nat) (w : World) (hm : Mm.Ok m) (ha : a < 32) :
    Calls Tryd.prog 40 #[.agg (matA m), .int .i64 (a : Nat)] w fun e w' => e = .returned (.agg (matA (Mm.cut m a))) ∧ Below w.heap.size w w' := by
  have hg := matA_get m a ha
  have hma := hm a ha
  have HA := Lib.hid (rsub_key (m a))
  have HO := Lib.hid (Mm.clr_ok a hm)
  go_enter Tryd.func40, Tryd.ntmps40
  go_wp2_with (go_at_call 63; refine (rnode_yes _ _ ha).mono ?_; rintro e w' ⟨rfl, rfl⟩)
  go_region
  rw [HA.out, matA_set, matA_ext (clr_eq (m := m) (a := a))]
  go_wp2
  go_loopw [5] (CutRel m a 35 w) (fun i _ => 32 - (intOf i).toNat)
  case atStart =>
    refine ⟨0, by omega, rfl, ?_, ?_, ?_⟩
    · exact MatAt.drew (MatAt.ext (show MatAt _ _ _ _ from heap_alloc2_old _ _ _) fun i _ => cutTo_zero m a i)
    · refine MatAt.drew ?_
      unfold MatAt zeroM; rw [matA_zero]; exact heap_alloc2_new _ _ _
    · exact (((Below.refl _ _).alloc (Nat.le_refl _) _).alloc (by simp) _).drew
  case round =>
    obtain ⟨k, hk, rfl, h0, h1, hb⟩ := hrel
    have H0 := Lib.hid h0
    have H1 := Lib.hid h1
    by_cases hlt : k < 32
    · have hc := h0.cell k hlt
      have hf := h0.frozen k
      have hq := cutTo_ok a k HO.out k hlt
      clear h0 h1
      go_wp2_with (go_at_call 56; refine (rless_val _ _ _ _ hq (by omega) rfl).mono ?_; rintro e w' ⟨rfl, rfl⟩)
      refine ⟨⟨k + 1, by omega, by go_num, ?_, ?_, hb.setCell (by simp) _⟩, by simp [intOf]; omega⟩
      · exact (matAt_cell H0.out).ext fun i _ => cutTo_step _ a k i
      · exact H1.out.setCell _ _ (by simp)
    · obtain rfl : k = 32 := by omega
      clear h0 h1
      go_wp2_with (first
        | (refine wpList_load_row rfl 35 (.tmp 2) rfl w.heap.size rfl 35 _ (0, 0) _ H0.out Tryd.underlying35 rfl (rmatInfo _) ?_)
        | (refine wpList_store_row rfl 35 (.tmp 4) (.tmp 31) rfl (w.heap.size + 1) _ rfl rfl 35 _ H1.out (rmatInfo _) (by rw [matA_size, matA_size]) (matA_one _) ?_))
      rw [matA_ext (cutTo_all m a)]
      refine bodyPost_ret (results_cell_row rfl _ _ (w.heap.size + 1) 35 (matA (Mm.cut m a)) (0, 0) _ rfl (setRow_heap _ _ _ _ _ _ H1.out) Tryd.underlying35 rfl (rmatInfo _)) rfl ⟨rfl, ?_⟩
      exact setRow_below hb (by omega)
end Go.Proofs.YtakoceablbgchaaDoor
namespace Go.Proofs.YtakoceablbgchaaDoor
open Go.RowKit
/-- all edges the other way. -/
def turn (m : Mm.Gr) : Mm.Gr := fun j => insTo m j 32
theorem insTo_32 {m : Mm.Gr} {j k : Nat} (hk : k ≤ 64) : insTo m j k < pw k := by
  have h : ∀ i, (insTo m j k).testBit i = true → i < k := fun i hi => by
    unfold insTo at hi
    rw [Mm.mk_test _ _ _ hk] at hi
    simp at hi
    exact hi.1
  exact Nat.lt_pow_two_of_testBit _ fun i hi => by
    cases hb : (insTo m j k).testBit i
    · rfl
    · have := h i hb; omega
theorem turn_lt (m : Mm.Gr) (j : Nat) : turn m j < 4294967296 := insTo_32 (by decide)
theorem turn_ok (m : Mm.Gr) : Mm.Ok (turn m) := fun i _ => by have := turn_lt m i; omega
theorem turn_E (m : Mm.Gr) (i j : Nat) : Mm.E (turn m) i j ↔ Mm.E m j i := by
  unfold Mm.E turn insTo
  rw [Mm.mk_test _ _ _ (by decide)]
  simp
  constructor
  · rintro ⟨h1, h2, h3⟩; exact ⟨h2, h1, h3⟩
  · rintro ⟨h1, h2, h3⟩; exact ⟨h2, h1, h3⟩
theorem turn_outs (m : Mm.Gr) (i : Nat) : Mm.outs (turn m) i = Mm.ins m i := by
  apply Sm.ext; intro j
  rw [Bool.eq_iff_iff, Mm.outs_test, Mm.ins_test, turn_E]
/-- the first k columns, and of the next one those of the first b rows. -/
def turnTo (m : Mm.Gr) (k b : Nat) : Mm.Gr := fun j => if j < b then insTo m j (k + 1) else insTo m j k
theorem turnTo_next (m : Mm.Gr) (k j : Nat) (h : j < 32) : turnTo m k 32 j = turnTo m (k + 1) 0 j := by unfold turnTo; rw [if_pos h, if_neg (by omega)]
theorem turnTo_all (m : Mm.Gr) (j : Nat) : turnTo m 32 0 j = turn m j := by unfold turnTo turn; rw [if_neg (by omega)]
theorem turnTo_zero (m : Mm.Gr) (j : Nat) : zeroM j = turnTo m 0 0 j := by unfold turnTo zeroM insTo; rw [if_neg (by omega)]; rfl
theorem turnTo_no {m : Mm.Gr} {k b : Nat} (h : (m k).testBit b = false) (j : Nat) : turnTo m k b j = turnTo m k (b + 1) j := by
  unfold turnTo
  by_cases hj : j = b
  · subst hj
    rw [if_neg (by omega), if_pos (by omega)]
    exact insTo_no h
  · by_cases h2 : j < b
    · rw [if_pos h2, if_pos (by omega)]
    · rw [if_neg h2, if_neg (by omega)]
theorem turnTo_yes {m : Mm.Gr} {k b : Nat} (hk : k < 32) (h : (m k).testBit b = true) (j : Nat) : (if j = b then insTo m b k + pw k else turnTo m k b j) = turnTo m k (b + 1) j := by
  unfold turnTo
  by_cases hj : j = b
  · subst hj
    rw [if_pos rfl, if_pos (by omega), ← insTo_yes h]
    refine (add_not (by omega) ?_).symm
    unfold insTo
    rw [Mm.mk_test _ _ _ (by omega)]
    simp
  · by_cases h2 : j < b
    · rw [if_neg hj, if_pos h2, if_pos (by omega)]
    · rw [if_neg hj, if_neg h2, if_neg (by omega)]
theorem turn_sum {m : Mm.Gr} {k b : Nat} (hk : k < 32) : insTo m b k + pw k < 18446744073709551616 := by
  have h1 := insTo_32 (m := m) (j := b) (k := k) (by omega)
  have h2 : pw k * 2 = pw (k + 1) := (Nat.pow_succ ..).symm
  have h3 : pw (k + 1) ≤ pw 32 := Nat.pow_le_pow_right (by decide) (by omega)
  have h4 : pw 32 = 4294967296 := rfl
  omega
theorem turnTo_at (m : Mm.Gr) (k b : Nat) : turnTo m k b b = insTo m b k := by unfold turnTo; rw [if_neg (by omega)]
/-- a block holds whether each number is in x. -/
def BitsAt (w : World) (g x : Nat) : Prop := w.heap[g]? = some (.cells (bitArr x 64) 99 (0, 0))
theorem BitsAt.lt {w : World} {g x : Nat} (h : BitsAt w g x) : g < w.heap.size := (Array.getElem?_eq_some_iff.1 h).1
theorem BitsAt.below {w w' : World} {g x : Nat} (h : BitsAt w g x) (hb : Below w.heap.size w w') : BitsAt w' g x := (hb.block g h.lt).trans h
theorem BitsAt.alloc {w : World} {g x : Nat} (h : BitsAt w g x) (o : Obj) : BitsAt (w.alloc o) g x := (Below.heap_alloc w o g h.lt).trans h
theorem BitsAt.setCell {w : World} {g x : Nat} (h : BitsAt w g x) (a : Addr) (v : Value) (hk : g ≠ a.block) : BitsAt (w.setCell a v) g x := (Below.heap_setCell w a v g hk).trans h
theorem BitsAt.cell {w : World} {g x : Nat} (h : BitsAt w g x) (i : Nat) (hi : i < 64) : w.cell? ⟨g, i, none⟩ = some (.bool (x.testBit i)) := by
  rw [cell_of_row _ _ _ _ _ _ h, bitArr_get x 64 i hi, decide_eq_true hi, Bool.true_and]
theorem BitsAt.frozen {w : World} {g x : Nat} (h : BitsAt w g x) (i : Nat) : w.frozen? ⟨g, i, none⟩ = false := frozen_of_row h
theorem bitsAt_new (w : World) (x : Nat) : BitsAt (w.alloc (.cells (bitArr x 64) 99)) w.heap.size x := heap_alloc_new w _
theorem bitArr_set {x y k : Nat} {b : Bool} (h : ∀ j, j < 64 → y.testBit j = if j = k then b else x.testBit j) : (bitArr x 64).setIfInBounds k (.bool b) = bitArr y 64 := by
  apply Array.ext_getElem?
  intro i
  by_cases hi : i < 64
  · rw [Array.getElem?_setIfInBounds, bitArr_get y 64 i hi, bitArr_get x 64 i hi, h i hi]
    by_cases e : k = i
    · subst e
      simp [bitArr_size, hi]
    · have : ¬ i = k := fun q => e q.symm
      simp [e, this]
  · rw [Array.getElem?_eq_none (by simp [bitArr_size]; omega), Array.getElem?_eq_none (by rw [bitArr_size]; omega)]
theorem bitsAt_cell {w : World} {g x y k : Nat} {b : Bool} (h : BitsAt w g x) (hy : ∀ j, j < 64 → y.testBit j = if j = k then b else x.testBit j) : BitsAt (w.setCell ⟨g, k, none⟩ (.bool b)) g y := by
  unfold BitsAt
  rw [heap_set h, bitArr_set hy]
theorem boolInfo (x : Nat) : (Tryd.prog.info? 99).map (·.size) = some (bitArr x 64).size := by rw [bitArr_size]; exact boolarr_info
structure TurnSt (m : Mm.Gr) (w : World) (t : Mm.Gr) (wr : World) : Prop where
  inn : MatAt wr w.heap.size m 35
  res : MatAt wr (w.heap.size + 1) zeroM 35
  out : MatAt wr (w.heap.size + 2) t 35
  bel : Below w.heap.size w wr
theorem TurnSt.below {m : Mm.Gr} {w W W' : World} {t : Mm.Gr} (h : TurnSt m w t W) (hb : Below W.heap.size W W') : TurnSt m w t W' :=
  ⟨h.inn.below hb, h.res.below hb, h.out.below hb, h.bel.trans (hb.mono h.bel.size)⟩
theorem TurnSt.alloc {m : Mm.Gr} {w W : World} {t : Mm.Gr} (h : TurnSt m w t W) (o : Obj) : TurnSt m w t (W.alloc o) := h.below ((Below.refl _ _).alloc (Nat.le_refl _) _)
theorem TurnSt.ext {m : Mm.Gr} {w W : World} {t u : Mm.Gr} (h : TurnSt m w t W) (e : ∀ i, i < 32 → t i = u i) : TurnSt m w u W := ⟨h.inn, h.res, h.out.ext e, h.bel⟩
theorem TurnSt.set {m : Mm.Gr} {w W : World} {t : Mm.Gr} (h : TurnSt m w t W) (k v : Nat) : TurnSt m w (fun i => if i = k then v else t i) (W.setCell ⟨w.heap.size + 2, k, none⟩ (.int .u64 (v : Nat))) :=
  ⟨h.inn.setCell _ _ (by simp), h.res.setCell _ _ (by simp), matAt_cell h.out, h.bel.setCell (by simp) _⟩
def TurnRel (m : Mm.Gr) (w : World) (p i : Value) (wr : World) : Prop :=
  ∃ k : Nat, k ≤ 32 ∧ i = .int .i64 k ∧ p = .int .u64 (pw k : Nat) ∧ TurnSt m w (turnTo m k 0) wr
def TurnIn (m : Mm.Gr) (w : World) (k g : Nat) (i : Value) (wr : World) : Prop :=
  ∃ b : Nat, b ≤ 32 ∧ i = .int .i64 b ∧ BitsAt wr g (m k) ∧ TurnSt m w (turnTo m k b) wr
set_option maxHeartbeats 2000000 in
set_option maxRecDepth 100000 in
theorem turn_any (m : Mm.Gr) (w : World) (hm : Mm.Ok m) :
    Calls Tryd.prog 74 #[.agg (matA m)] w fun e w' => e = .returned (.agg (matA (turn m))) ∧ Below w.heap.size w w' := by
  go_enter Tryd.func74, Tryd.ntmps74
  go_wp2
  go_loopw [4, 5] (TurnRel m w) (fun _ i _ => 32 - (intOf i).toNat)
  case atStart =>
    refine ⟨0, by omega, rfl, rfl, ?_, ?_, ?_, (((Below.refl _ _).alloc (Nat.le_refl _) _).alloc (by simp) _).alloc (by simp; omega) _⟩
    · exact ((matAt_new w m 35).alloc _).alloc _
    · refine MatAt.alloc ?_ _
      have := zero_lit (w.alloc (.cells (matA m) 35)) 35
      have h2 : MatAt ((w.alloc (.cells (matA m) 35)).alloc (.cells (Array.replicate 32 (Value.int .u64 0)) 35)) (w.heap.size + 1) zeroM 35 := by simpa using this
      exact h2
    · have := zero_lit ((w.alloc (.cells (matA m) 35)).alloc (.cells (Array.replicate 32 (Value.int .u64 0)) 35)) 35
      have h2 : MatAt (((w.alloc (.cells (matA m) 35)).alloc (.cells (Array.replicate 32 (Value.int .u64 0)) 35)).alloc (.cells (Array.replicate 32 (Value.int .u64 0)) 35)) (w.heap.size + 2) zeroM 35 := by simpa using this
      exact h2.ext fun i _ => turnTo_zero m i
  case round =>
    obtain ⟨k, hk, rfl, rfl, hS⟩ := hrel
    have HS := Lib.hid hS
    by_cases hlt : k < 32
    · have hc := hS.inn.cell k hlt
      have hmk := hm k hlt
      clear hS
      go_wp2_with fail
      refine (bits_any _ _ hmk).mono ?_
      rintro e w1 ⟨rfl, hb1⟩
      have HS1 := Lib.hid ((HS.out.below hb1).alloc (.cells (bitArr (m k) 64) 99))
      have HB1 := Lib.hid (bitsAt_new w1 (m k))
      clear hb1 hc HS
      go_wp2_with (refine wpList_store_row rfl 99 (.tmp 6) (.tmp 15) rfl w1.heap.size (bitArr (m k) 64) rfl rfl 99 _ (heap_alloc_new _ _) (boolInfo _) (by rw [bitArr_size]; rfl) (bitArr_one _ _) ?_; rw [World.setRow_alloc_new])
      go_loopw [7] (TurnIn m w k w1.heap.size) (fun i _ => 32 - (intOf i).toNat)
      case atStart => exact ⟨0, by omega, rfl, HB1.out, HS1.out⟩
      case round =>
        obtain ⟨b, hb, rfl, hB, hS⟩ := hrel
        have HSr := Lib.hid hS
        have HBr := Lib.hid hB
        by_cases hbl : b < 32
        · have hc := hB.cell b (by omega)
          have hne : w1.heap.size ≠ w.heap.size + 2 := by
            intro e
            have h1 := hB
            have h2 := hS.out
            unfold BitsAt at h1
            unfold MatAt at h2
            rw [e, h2] at h1
            simp at h1
          cases ht : (m k).testBit b
          · rw [ht] at hc
            have HN := Lib.hid (turnTo_no ht)
            clear ht hS hB hne
            go_wp2
            exact ⟨⟨b + 1, by omega, by go_num, HBr.out, HSr.out.ext fun i _ => HN.out i⟩, by simp [intOf]; omega⟩
          · rw [ht] at hc
            have hc2 := hS.out.cell b hbl
            rw [turnTo_at] at hc2
            have hf2 := hS.out.frozen b
            have hsum := turn_sum (m := m) (b := b) hlt
            have HY := Lib.hid (turnTo_yes hlt ht)
            have HW := Lib.hid (show ((insTo m b k : Nat) : Int) + ((pw k : Nat) : Int) = ((insTo m b k + pw k : Nat) : Int) by omega)
            clear ht hS hB
            go_wp2
            rw [HW.out]
            exact ⟨⟨b + 1, by omega, by go_num, HBr.out.setCell _ _ hne, (HSr.out.set b _).ext fun i _ => HY.out i⟩, by simp [intOf]; omega⟩
        · obtain rfl : b = 32 := by omega
          clear hS hB
          have hps : IntKind.u64.wrap (((pw k : Nat) : Int) * 2) = ((pw (k + 1) : Nat) : Int) := pow_step (by omega)
          go_wp2
          exact ⟨⟨k + 1, by omega, by go_num, rfl, HSr.out.ext fun i hi => turnTo_next m k i hi⟩, by simp [intOf]; omega⟩
    · obtain rfl : k = 32 := by omega
      clear hS
      have HT := Lib.hid (HS.out.ext fun i _ => turnTo_all m i)
      go_wp2_with (first
        | (refine wpList_load_row rfl 35 (.tmp 3) rfl (w.heap.size + 2) rfl 35 (matA (turn m)) (0, 0) _ HT.out.out Tryd.underlying35 rfl (rmatInfo _) ?_)
        | (refine wpList_store_row rfl 35 (.tmp 2) (.tmp 32) rfl (w.heap.size + 1) (matA (turn m)) rfl rfl 35 _ HT.out.res (rmatInfo _) (by rw [matA_size, matA_size]) (matA_one _) ?_))
      refine bodyPost_ret (results_cell_row rfl _ _ (w.heap.size + 1) 35 (matA (turn m)) (0, 0) _ rfl (setRow_heap _ _ _ _ _ _ HT.out.res) Tryd.underlying35 rfl (rmatInfo _)) rfl ⟨rfl, ?_⟩
      exact setRow_below HT.out.bel (by omega)
/- Sum -/
theorem hv_step (x k : Nat) : hv x k = 2 * hv x (k + 1) + (if x.testBit k then 1 else 0) := by
  have h1 : hv x (k + 1) = hv x k / 2 := by
    unfold hv pw
    rw [Nat.pow_succ, Nat.div_div_eq_div_mul]
  have h2 := hv_test x k
  rw [h1]
  by_cases h : x.testBit k = true
  · rw [h] at h2 ⊢
    simp at h2
    simp
    omega
  · have hf : x.testBit k = false := by simpa using h
    rw [hf] at h2 ⊢
    simp at h2
    simp
    omega
def SumRel (x : Nat) (s i : Value) : Prop := ∃ k : Nat, k ≤ 64 ∧ i = .int .i64 ((k : Int) - 1) ∧ s = .int .u64 (hv x k : Nat)
theorem hv_64 {x : Nat} (h : x < 18446744073709551616) : hv x 64 = 0 := by
  unfold hv pw
  exact Nat.div_eq_of_lt (by simpa using h)
set_option maxHeartbeats 1000000 in
set_option maxRecDepth 100000 in
theorem sum_any (x : Nat) (w : World) (hx : x < 18446744073709551616) :
    Calls Tryd.prog 80 #[.agg (bitArr x 64)] w fun e w' => e = .returned (.int .u64 (x : Nat)) ∧ Below w.heap.size w w' := by
  go_enter Tryd.func80, Tryd.ntmps80
  go_wp2
  go_loop [3, 4] (SumRel x) (fun _ i => (intOf i + 1).toNat)
  case atStart => exact ⟨64, by omega, rfl, by rw [hv_64 hx]; rfl⟩
  case round =>
    obtain ⟨k, hk, rfl, rfl⟩ := hrel
    by_cases h0 : k = 0
    · subst h0
      have HZ := Lib.hid (hv_zero x)
      go_wp2
      go_ret
      rw [HZ.out]
      exact ⟨rfl, (Below.refl _ _).alloc (Nat.le_refl _) _⟩
    · obtain ⟨j, rfl⟩ : ∃ j, k = j + 1 := ⟨k - 1, by omega⟩
      have e1 : ((j + 1 : Nat) : Int) - 1 = (j : Int) := by omega
      rw [e1]
      have hst := hv_step x j
      have hlt := hv_lt j hx
      have hg := bitArr_get x 64 j (by omega)
      rw [decide_eq_true (by omega : j < 64), Bool.true_and] at hg
      cases ht : x.testBit j
      · rw [ht] at hg hst
        have hs2 : 2 * hv x (j + 1) = hv x j := by simpa using hst.symm
        have HK := Lib.hid (show IntKind.u64.wrap (((hv x (j + 1) : Nat) : Int) * 2) = ((hv x j : Nat) : Int) by rw [IntKind.wrap_u64]; omega)
        clear ht hst hs2
        go_wp2_with (simp only [HK.out])
        go_round
        case rel => exact ⟨j, by omega, by go_num, rfl⟩
        case measure => simp [intOf]
      · rw [ht] at hg hst
        have hs2 : 2 * hv x (j + 1) + 1 = hv x j := by simpa using hst.symm
        have HK := Lib.hid (show IntKind.u64.wrap (IntKind.u64.wrap (((hv x (j + 1) : Nat) : Int) * 2) + 1) = ((hv x j : Nat) : Int) by rw [IntKind.wrap_u64, IntKind.wrap_u64]; omega)
        clear ht hst hs2
        go_wp2
        rw [HK.out]
        exact ⟨⟨j, by omega, rfl, rfl⟩, by simp [intOf]⟩
end Go.Proofs.YtakoceablbgchaaDoor
namespace Go.Proofs.YtakoceablbgchaaDoor
open Go.RowKit
namespace Mm
/-- all that came in, and all whose edges were looked at. -/
structure InvR (nx : Nat → Nat) (x R X H : Nat) : Prop where
  xlt : X < 4294967296
  sub : ∀ j, H.testBit j = true → X.testBit j = true
  start : ∀ j, x.testBit j = true → X.testBit j = true
  sound : ∀ j, X.testBit j = true → R.testBit j = true
  step : ∀ i j, H.testBit i = true → (nx i).testBit j = true → X.testBit j = true
theorem InvR.hlt {nx : Nat → Nat} {x R X H : Nat} (h : InvR nx x R X H) : H < 4294967296 := lt32 fun j hj => test32 h.xlt (h.sub j hj)
theorem invR_first {nx : Nat → Nat} {x R : Nat} (h : Least nx x R) (hx : x < 4294967296) : InvR nx x R x 0 :=
  ⟨hx, fun j hj => by simp at hj, fun j hj => hj, h.start, fun i j hi => by simp at hi⟩
theorem invR_last {nx : Nat → Nat} {x R X : Nat} (h : Least nx x R) (hi : InvR nx x R X X) : X = R := by
  apply Sm.ext; intro j
  rw [Bool.eq_iff_iff]
  exact ⟨hi.sound j, h.least X hi.start hi.step j⟩
theorem invR_next {nx : Nat → Nat} {x R X H b : Nat} (h : Least nx x R) (hn : ∀ i, nx i < 4294967296) (hi : InvR nx x R X H) (hb : X.testBit b = true) (hh : H.testBit b = false) :
    InvR nx x R (X ||| nx b) (Sm.add H (b : Int)) ∧ H < Sm.add H (b : Int) := by
  have hb32 := test32 hi.xlt hb
  refine ⟨⟨or_lt32 hi.xlt (hn b), fun j hj => ?_, fun j hj => ?_, fun j hj => ?_, fun i j h1 h2 => ?_⟩, ?_⟩
  · rw [add_same hb32] at hj
    rw [Nat.testBit_or]
    simp only [Bool.or_eq_true, decide_eq_true_eq] at hj ⊢
    rcases hj with hj | rfl
    · exact .inl (hi.sub j hj)
    · exact .inl hb
  · rw [Nat.testBit_or, hi.start j hj]; rfl
  · rw [Nat.testBit_or, Bool.or_eq_true] at hj
    rcases hj with hj | hj
    · exact hi.sound j hj
    · exact h.step b j (hi.sound b hb) hj
  · rw [add_same hb32] at h1
    rw [Nat.testBit_or, Bool.or_eq_true]
    simp only [Bool.or_eq_true, decide_eq_true_eq] at h1
    rcases h1 with h1 | rfl
    · exact .inl (hi.step i j h1 h2)
    · exact .inr h2
  · apply Nat.lt_of_le_of_ne (show H ≤ H ||| Sm.bit (b : Int) from Nat.left_le_or)
    intro he
    have h4 : H.testBit b = (Sm.add H (b : Int)).testBit b := congrArg (fun n => n.testBit b) he
    rw [add_same hb32, hh] at h4
    simp at h4
end Mm
/-- x, and of y what is below k. -/
def orTo (x y k : Nat) : Nat := x ||| (y % pw k)
theorem orTo_zero (x y : Nat) : orTo x y 0 = x := by
  unfold orTo pw
  have : y % 2 ^ 0 = 0 := by rw [Nat.pow_zero, Nat.mod_one]
  rw [this, Nat.or_zero]
theorem orTo_all {x y : Nat} (h : y < 4294967296) : orTo x y 32 = x ||| y := by
  unfold orTo pw
  rw [Nat.mod_eq_of_lt (by simpa using h)]
theorem orTo_test (x y k j : Nat) : (orTo x y k).testBit j = (x.testBit j || (decide (j < k) && y.testBit j)) := by
  unfold orTo pw
  rw [Nat.testBit_or, Nat.testBit_mod_two_pow]
theorem orTo_at (x y k : Nat) : (orTo x y k).testBit k = x.testBit k := by rw [orTo_test]; simp
theorem orTo_step (x y k j : Nat) : (orTo x y (k + 1)).testBit j = if j = k then (x.testBit k || y.testBit k) else (orTo x y k).testBit j := by
  rw [orTo_test, orTo_test]
  by_cases h : j = k
  · subst h; simp
  · rw [if_neg h]
    congr 2
    rw [decide_eq_decide]; omega
theorem bitArr_none : bitArr 0 64 = Array.replicate 64 (Value.bool false) := by
  apply Array.ext_getElem?
  intro i
  by_cases h : i < 64
  · rw [bitArr_get 0 64 i h]; simp [h]
  · rw [Array.getElem?_eq_none (by rw [bitArr_size]; omega), Array.getElem?_eq_none (by simp; omega)]
theorem bitsAt_none (w : World) : BitsAt (w.alloc (.cells (Array.replicate 64 (Value.bool false)) 99)) w.heap.size 0 := by
  unfold BitsAt; rw [bitArr_none]; exact heap_alloc_new _ _
structure RSt (m : Mm.Gr) (w : World) (g X H : Nat) (wr : World) : Prop where
  inn : MatAt wr w.heap.size m 35
  has : BitsAt wr g X
  had : BitsAt wr (g + 1) H
  bel : Below w.heap.size w wr
theorem RSt.below {m : Mm.Gr} {w W W' : World} {g X H : Nat} (h : RSt m w g X H W) (hb : Below W.heap.size W W') : RSt m w g X H W' :=
  ⟨h.inn.below hb, h.has.below hb, h.had.below hb, h.bel.trans (hb.mono h.bel.size)⟩
theorem RSt.alloc {m : Mm.Gr} {w W : World} {g X H : Nat} (h : RSt m w g X H W) (o : Obj) : RSt m w g X H (W.alloc o) := h.below ((Below.refl _ _).alloc (Nat.le_refl _) _)
theorem RSt.setHad {m : Mm.Gr} {w W : World} {g X H K k : Nat} {b : Bool} (h : RSt m w g X H W) (hg : w.heap.size < g) (hy : ∀ j, j < 64 → K.testBit j = if j = k then b else H.testBit j) : RSt m w g X K (W.setCell ⟨g + 1, k, none⟩ (.bool b)) :=
  ⟨h.inn.setCell _ _ (by simp; omega), h.has.setCell _ _ (by simp), bitsAt_cell h.had hy, h.bel.setCell (by simp; omega) _⟩
theorem RSt.setHas {m : Mm.Gr} {w W : World} {g X H K k : Nat} {b : Bool} (h : RSt m w g X H W) (hg : w.heap.size < g) (hy : ∀ j, j < 64 → K.testBit j = if j = k then b else X.testBit j) : RSt m w g K H (W.setCell ⟨g, k, none⟩ (.bool b)) :=
  ⟨h.inn.setCell _ _ (by simp; omega), bitsAt_cell h.has hy, h.had.setCell _ _ (by simp), h.bel.setCell (by simp; omega) _⟩
def RRel (m : Mm.Gr) (x R g : Nat) (w : World) (n : Nat) (more : Value) (wr : World) : Prop :=
  ∃ X H b, more = .bool b ∧ Mm.InvR (Mm.outs m) x R X H ∧ RSt m w g X H wr ∧ (b = false → X = H) ∧ 2 * (4294967296 - H) + (if b then 1 else 0) ≤ n
def MRel (m : Mm.Gr) (x R g H0 : Nat) (w : World) (more i : Value) (wr : World) : Prop :=
  ∃ X H b k, more = .bool b ∧ i = .int .i64 (k : Nat) ∧ k ≤ 32 ∧ Mm.InvR (Mm.outs m) x R X H ∧ RSt m w g X H wr ∧ H0 ≤ H ∧ (b = true → H0 < H) ∧ (b = false → ∀ j, j < k → X.testBit j = true → H.testBit j = true)
def CRel (m : Mm.Gr) (g gO X Y H : Nat) (w : World) (i : Value) (wr : World) : Prop :=
  ∃ k, i = .int .i64 (k : Nat) ∧ k ≤ 32 ∧ RSt m w g (orTo X Y k) H wr ∧ BitsAt wr gO Y
theorem add_bits {H b : Nat} (hb : b < 32) (j : Nat) (_ : j < 64) : (Sm.add H (b : Int)).testBit j = if j = b then true else H.testBit j := by
  rw [Mm.add_same hb]
  by_cases h : j = b
  · simp [h]
  · simp [h]
theorem mid_end {X H : Nat} (hX : X < 4294967296) (h1 : ∀ j, H.testBit j = true → X.testBit j = true) (h2 : ∀ j, j < 32 → X.testBit j = true → H.testBit j = true) : X = H := by
  apply Sm.ext; intro j
  rw [Bool.eq_iff_iff]
  exact ⟨fun h => h2 j (Mm.test32 hX h) h, h1 j⟩
set_option maxHeartbeats 4000000 in
set_option maxRecDepth 100000 in
theorem rreach_core (m : Mm.Gr) (a : Int) (x R : Nat) (w : World) (hm : Mm.Ok m) (hx : x < 4294967296) (hR : Mm.Least (Mm.outs m) x R)
    (hO : ∀ W, Calls Tryd.prog 60 #[.agg (matA m), .int .i64 a] W fun e W' => e = .returned (.int .u64 (x : Nat)) ∧ Below W.heap.size W W') :
    Calls Tryd.prog 73 #[.agg (matA m), .int .i64 a] w fun e w' => e = .returned (.int .u64 (R : Nat)) ∧ Below w.heap.size w w' := by
  have HR := Lib.hid hR
  have HOut := Lib.hid hO
  have hx64 : x < 18446744073709551616 := by omega
  clear hR hO
  go_enter Tryd.func73, Tryd.ntmps73
  go_wp2_with (refine wpList_load_row rfl 35 (.tmp 2) rfl w.heap.size rfl 35 (matA m) (0, 0) _ (matAt_new _ _ _) Tryd.underlying35 rfl (rmatInfo m) ?_)
  refine (HOut.out _).mono ?_
  rintro e w1 ⟨rfl, hb1⟩
  go_wp2_with fail
  refine (bits_any _ _ hx64).mono ?_
  rintro e w2 ⟨rfl, hb2⟩
  have hs1 := hb1.size
  have hs2 := hb2.size
  have hg : w.heap.size < w2.heap.size := by simp at hs1; omega
  have HS := Lib.hid (show RSt m w w2.heap.size x 0 ((w2.alloc (.cells (bitArr x 64) 99)).alloc (.cells (Array.replicate 64 (Value.bool false)) 99)) from by
    have h0 : Below w.heap.size w (w.alloc (.cells (matA m) 35)) := (Below.refl _ _).alloc (Nat.le_refl _) _
    have h1 := h0.trans (hb1.mono h0.size)
    have h2 := h1.trans (hb2.mono h1.size)
    refine ⟨((((matAt_new w m 35).below hb1).below hb2).alloc _).alloc _, (bitsAt_new _ _).alloc _, ?_, (h2.alloc h2.size _).alloc (by have := h2.size; simp; omega) _⟩
    have := bitsAt_none (w2.alloc (.cells (bitArr x 64) 99))
    simpa using this)
  clear hb1 hb2 hs1 hs2
  go_wp2_with (refine wpList_store_row rfl 99 (.tmp 5) (.tmp 14) rfl w2.heap.size (bitArr x 64) rfl rfl 99 _ (heap_alloc_new _ _) (boolInfo _) (by rw [bitArr_size]; rfl) (bitArr_one _ _) ?_; rw [World.setRow_alloc_new])
  generalize hG : w2.heap.size = g at *
  have HG := Lib.hid hG
  clear hG
  go_loopg [7] 8589934593 (RRel m x R g w)
  case atStart => exact ⟨x, 0, true, rfl, Mm.invR_first HR.out hx, HS.out, (fun h => by cases h), by decide⟩
  case round =>
    obtain ⟨X, H, b, rfl, hi, hS, hbH, hn⟩ := hrel
    have HI := Lib.hid hi
    have HSr := Lib.hid hS
    have HBH := Lib.hid hbH
    have HN := Lib.hid hn
    have hX := hi.xlt
    have hH := hi.hlt
    have hX64 : X < 18446744073709551616 := by omega
    clear hi hS hbH hn HS
    cases b
    · have HE := Lib.hid (show X = R from by
        have e := HBH.out rfl
        exact Mm.invR_last HR.out (by have h := HI.out; rw [← e] at h; exact h))
      go_wp2_with (first
        | (refine wpList_load_row rfl 99 (.tmp 5) rfl g rfl 99 (bitArr X 64) (0, 0) _ HSr.out.has Tryd.underlying99 rfl (boolInfo _) ?_)
        | (go_at_call 80; refine (sum_any X _ hX64).mono ?_; rintro e w3 ⟨rfl, hb3⟩))
      go_ret
      rw [HE.out]
      exact ⟨rfl, (HSr.out.below hb3).bel⟩
    · go_wp2
      go_loopw [7, 8] (MRel m x R g H w) (fun _ i _ => 32 - (intOf i).toNat)
      case atStart => exact ⟨X, H, false, 0, rfl, rfl, by omega, HI.out, HSr.out, Nat.le_refl _, (fun h => by cases h), fun _ j hj => absurd hj (by omega)⟩
      case round =>
        obtain ⟨X', H', b', k, rfl, rfl, hk, hi, hS, hle, hb1, hb2⟩ := hrel
        have HI' := Lib.hid hi
        have HS' := Lib.hid hS
        have HLE := Lib.hid hle
        have HB1 := Lib.hid hb1
        have HB2 := Lib.hid hb2
        have hX' := hi.xlt
        clear hi hle hb1 hb2
        by_cases hlt : k < 32
        · have hc1 := hS.has.cell k (by omega)
          have hc2 := hS.had.cell k (by omega)
          have hf2 := hS.had.frozen k
          clear hS
          cases ht : X'.testBit k
          · rw [ht] at hc1
            have HT := Lib.hid ht
            clear ht
            go_wp2
            refine ⟨⟨X', H', b', k + 1, rfl, by go_num, by omega, HI'.out, HS'.out, HLE.out, HB1.out, fun hb j hj hx => ?_⟩, by simp [intOf]; omega⟩
            by_cases hjk : j = k
            · subst hjk; rw [HT.out] at hx; cases hx
            · exact HB2.out hb j (by omega) hx
          · rw [ht] at hc1
            have HT := Lib.hid ht
            clear ht
            cases hh : H'.testBit k
            · rw [hh] at hc2
              have HH := Lib.hid hh
              clear hh
              obtain ⟨hin, hgt⟩ := Mm.invR_next HR.out (Mm.outs_lt m) HI'.out HT.out HH.out
              have HIN := Lib.hid hin
              have HGT := Lib.hid hgt
              have HSa := Lib.hid (HS'.out.setHad (k := k) (b := true) hg (add_bits hlt))
              clear hin hgt
              have ho32 := Mm.outs_lt m k
              have ho64 : Mm.outs m k < 18446744073709551616 := by omega
              go_wp2_with (refine wpList_load_row rfl 35 (.tmp 2) rfl w.heap.size rfl 35 (matA m) (0, 0) _ HSa.out.inn Tryd.underlying35 rfl (rmatInfo m) ?_)
              refine (routs_in m k _ hm hlt).mono ?_
              rintro e w3 ⟨rfl, hb3⟩
              go_wp2_with fail
              refine (bits_any _ _ ho64).mono ?_
              rintro e w4 ⟨rfl, hb4⟩
              have hS4 := (HSa.out.below hb3).below hb4
              have hgO : w4.heap.size ≠ g := by have := hS4.has.lt; omega
              have HS4 := Lib.hid (hS4.alloc (.cells (bitArr (Mm.outs m k) 64) 99))
              have HBO := Lib.hid (bitsAt_new w4 (Mm.outs m k))
              clear hS4 hb3 hb4 hc1 hc2 hf2 HSa HS'
              go_wp2_with (refine wpList_store_row rfl 99 (.tmp 9) (.tmp 34) rfl w4.heap.size (bitArr (Mm.outs m k) 64) rfl rfl 99 _ (heap_alloc_new _ _) (boolInfo _) (by rw [bitArr_size]; rfl) (bitArr_one _ _) ?_; rw [World.setRow_alloc_new])
              go_loopw [10] (CRel m g w4.heap.size X' (Mm.outs m k) (Sm.add H' (k : Int)) w) (fun i _ => 32 - (intOf i).toNat)
              case atStart => exact ⟨0, rfl, by omega, by rw [orTo_zero]; exact HS4.out, HBO.out⟩
              case round =>
                obtain ⟨c, rfl, hc, hS, hO⟩ := hrel
                have HSc := Lib.hid hS
                have HOc := Lib.hid hO
                by_cases hcl : c < 32
                · have d1 := hS.has.cell c (by omega)
                  have d2 := hS.has.frozen c
                  have d3 := hO.cell c (by omega)
                  rw [orTo_at] at d1
                  clear hS hO
                  cases hx1 : X'.testBit c
                  · rw [hx1] at d1
                    cases hy1 : (Mm.outs m k).testBit c
                    · rw [hy1] at d3
                      have HST := Lib.hid (fun j (_ : j < 64) => by have := orTo_step X' (Mm.outs m k) c j; rw [hx1, hy1] at this; exact this)
                      clear hx1 hy1
                      go_wp2
                      exact ⟨⟨c + 1, by go_num, by omega, HSc.out.setHas hg HST.out, HOc.out.setCell _ _ (by simpa using hgO)⟩, by simp [intOf]; omega⟩
                    · rw [hy1] at d3
                      have HST := Lib.hid (fun j (_ : j < 64) => by have := orTo_step X' (Mm.outs m k) c j; rw [hx1, hy1] at this; exact this)
                      clear hx1 hy1
                      go_wp2
                      exact ⟨⟨c + 1, by go_num, by omega, HSc.out.setHas hg HST.out, HOc.out.setCell _ _ (by simpa using hgO)⟩, by simp [intOf]; omega⟩
                  · rw [hx1] at d1
                    have HST := Lib.hid (fun j (_ : j < 64) => by have := orTo_step X' (Mm.outs m k) c j; rw [hx1, Bool.true_or] at this; exact this)
                    clear hx1
                    go_wp2
                    exact ⟨⟨c + 1, by go_num, by omega, HSc.out.setHas hg HST.out, HOc.out.setCell _ _ (by simpa using hgO)⟩, by simp [intOf]; omega⟩
                · obtain rfl : c = 32 := by omega
                  clear hS hO
                  have HA := Lib.hid (show RSt m w g (X' ||| Mm.outs m k) (Sm.add H' (k : Int)) wr from by have h := HSc.out; rw [orTo_all ho32] at h; exact h)
                  go_wp2
                  refine ⟨⟨X' ||| Mm.outs m k, Sm.add H' (k : Int), true, k + 1, rfl, by go_num, by omega, HIN.out, HA.out, Nat.le_trans HLE.out (Nat.le_of_lt HGT.out), fun _ => Nat.lt_of_le_of_lt HLE.out HGT.out, fun h => by cases h⟩, by simp [intOf]; omega⟩
            · rw [hh] at hc2
              have HH := Lib.hid hh
              clear hh
              go_wp2
              refine ⟨⟨X', H', b', k + 1, rfl, by go_num, by omega, HI'.out, HS'.out, HLE.out, HB1.out, fun hb j hj hx => ?_⟩, by simp [intOf]; omega⟩
              by_cases hjk : j = k
              · subst hjk; exact HH.out
              · exact HB2.out hb j (by omega) hx
        · obtain rfl : k = 32 := by omega
          clear hS
          have HM := Lib.hid (show 2 * (4294967296 - H') + (if b' then 1 else 0) < gk ∧ (b' = false → X' = H') from by
            have h1 := HN.out
            have h2 := HI'.out.hlt
            refine ⟨?_, fun hb => mid_end hX' HI'.out.sub (HB2.out hb)⟩
            simp only [if_true] at h1
            cases b'
            · have := HLE.out
              simp; omega
            · have := HB1.out rfl
              simp; omega)
          go_wp2
          go_roundg (2 * (4294967296 - H') + (if b' then 1 else 0))
          case measure => exact HM.out.1
          case rel => exact ⟨X', H', b', rfl, HI'.out, HS'.out, HM.out.2, Nat.le_refl _⟩
theorem rreach_in (m : Mm.Gr) (a : Nat) (w : World) (hm : Mm.Ok m) (ha : a < 32) :
    Calls Tryd.prog 73 #[.agg (matA m), .int .i64 (a : Nat)] w fun e w' => e = .returned (.int .u64 (Mm.ways (Mm.E m) a : Nat)) ∧ Below w.heap.size w w' :=
  rreach_core m a _ _ w hm (Mm.outs_lt m a) (Mm.least_outs m a) (fun W => routs_in m a W hm ha)
theorem rreach_far (m : Mm.Gr) (a : Int) (w : World) (hm : Mm.Ok m) (ha : Far a) :
    Calls Tryd.prog 73 #[.agg (matA m), .int .i64 a] w fun e w' => e = .returned (.int .u64 0) ∧ Below w.heap.size w w' :=
  rreach_core m a 0 0 w hm (by decide) (Mm.least_zero _) (fun W => routs_far m a W ha)
def RFreeRel (m : Mm.Gr) (w : World) (i : Value) (wr : World) : Prop :=
  ∃ k : Nat, k ≤ 32 ∧ i = .int .i64 k ∧ (∀ j, j < k → ¬ Mm.W (Mm.E m) j j) ∧ MatAt wr w.heap.size m 35 ∧ Below w.heap.size w wr
theorem rhasN_val (x k : Nat) (b : Bool) (w : World) (hx : x < 18446744073709551616) (hk : k < 64) (h : x.testBit k = b) :
    Calls Tryd.prog 39 #[.int .u64 x, .int .i64 (k : Nat)] w fun e w' => e = .returned (.bool b) ∧ w = w' :=
  rhas_val x (k : Nat) b w hx (by omega) (by omega) (by rw [Sm.has_nat k hx, h])
end Go.Proofs.YtakoceablbgchaaDoor
namespace Go.Proofs.YtakoceablbgchaaDoor
open Go.RowKit
set_option maxHeartbeats 1000000 in
set_option maxRecDepth 100000 in
theorem rnew_any (w : World) :
    Calls Tryd.prog 30 #[] w fun e w' => e = .returned (.agg (ordA Od.newO)) ∧ Below w.heap.size w w' := by
  go_enter Tryd.func30, Tryd.ntmps30
  go_wp2
  go_loopw [2] (NewRel 36 w) (fun i _ => 32 - (intOf i).toNat)
  case atStart => exact new_first w 36
  case round =>
    obtain ⟨k, hk, rfl, h0, h1, hb⟩ := hrel
    have H0 := Lib.hid h0
    have H1 := Lib.hid h1
    by_cases hlt : k < 32
    · have hc := h1.cell k hlt
      have hf := h1.frozen k
      clear h0 h1
      go_wp2
      refine ⟨⟨k + 1, by omega, by go_num, ?_, ?_, hb.setCell (by simp) _⟩, by simp [intOf]; omega⟩
      · exact H0.out.setCell _ _ (by simp)
      · exact (ordAt_cell H1.out).ext fun i _ => newTo_step k i
    · obtain rfl : k = 32 := by omega
      clear h0 h1
      go_wp2_with (first
        | (refine wpList_load_row rfl 36 (.tmp 1) rfl (w.heap.size + 1) rfl 36 _ (0, 0) _ H1.out Tryd.underlying36 rfl (rordInfo _) ?_)
        | (refine wpList_store_row rfl 36 (.tmp 0) (.tmp 10) rfl w.heap.size _ rfl rfl 36 _ H0.out (rordInfo _) (by rw [ordA_size, ordA_size]) (ordA_one _) ?_))
      rw [ordA_ext newTo_all]
      refine bodyPost_ret (results_cell_row rfl _ _ w.heap.size 36 (ordA Od.newO) (0, 0) _ rfl (setRow_heap _ _ _ _ _ _ H0.out) Tryd.underlying36 rfl (rordInfo _)) rfl ⟨rfl, ?_⟩
      exact setRow_below hb (by omega)
/- at -/
set_option maxHeartbeats 1000000 in
set_option maxRecDepth 100000 in
theorem at_yes (o : Od.O) (p : Int) (n : Nat) (w : World) (hn : n < 32) (he : o n = p) (hl : ∀ j, j < n → o j ≠ p) :
    Calls Tryd.prog 76 #[.agg (ordA o), .int .i64 p] w fun e w' => e = .returned (.int .i64 (n : Nat)) ∧ Below w.heap.size w w' := by
  have H0 := Lib.hid (ordAt_new w o 36)
  have HL := Lib.hid hl
  have HE := Lib.hid he
  clear hl he
  go_enter Tryd.func76, Tryd.ntmps76
  go_wp2
  go_loop [5] (fun i => ∃ k : Nat, k ≤ n ∧ i = .int .i64 k) (fun i => 32 - (intOf i).toNat)
  case atStart => exact ⟨0, Nat.zero_le _, rfl⟩
  case round =>
    obtain ⟨k, hk, rfl⟩ := hrel
    have hc := H0.out.cell k (by omega)
    by_cases hlt : k < n
    · have hne : (o k == p) = false := by simpa using HL.out k hlt
      go_wp2
      go_round
      case rel => exact ⟨k + 1, by omega, by go_num⟩
      case measure => simp [intOf]; omega
    · obtain rfl : k = n := by omega
      rw [HE.out] at hc
      go_wp2
      go_ret
      exact ⟨rfl, below_new _ _⟩
set_option maxHeartbeats 1000000 in
set_option maxRecDepth 100000 in
theorem at_no (o : Od.O) (p : Int) (w : World) (hl : ∀ j, j < 32 → o j ≠ p) :
    Calls Tryd.prog 76 #[.agg (ordA o), .int .i64 p] w fun e w' => e = .returned (.int .i64 (-1)) ∧ Below w.heap.size w w' := by
  have H0 := Lib.hid (ordAt_new w o 36)
  have HL := Lib.hid hl
  clear hl
  go_enter Tryd.func76, Tryd.ntmps76
  go_wp2
  go_loop [5] (fun i => ∃ k : Nat, k ≤ 32 ∧ i = .int .i64 k) (fun i => 32 - (intOf i).toNat)
  case atStart => exact ⟨0, Nat.zero_le _, rfl⟩
  case round =>
    obtain ⟨k, hk, rfl⟩ := hrel
    by_cases hlt : k < 32
    · have hc := H0.out.cell k (by omega)
      have hne : (o k == p) = false := by simpa using HL.out k hlt
      go_wp2
      go_round
      case rel => exact ⟨k + 1, by omega, by go_num⟩
      case measure => simp [intOf]; omega
    · obtain rfl : k = 32 := by omega
      go_wp2
      go_ret
      exact ⟨rfl, below_new _ _⟩
theorem at_place (o : Od.O) (p : Nat) (w : World) (hr : Od.Right o) (hp : p < 32) :
    Calls Tryd.prog 76 #[.agg (ordA o), .int .i64 (p : Nat)] w fun e w' => e = .returned (.int .i64 (Od.at_ o p : Nat)) ∧ Below w.heap.size w w' := by
  have h := Od.at_spec hr hp
  exact at_yes o p _ w h.1 h.2 fun j hj e => by
    have := hr.inj (i := j) (by omega) h.1 (by rw [e, h.2])
    omega
theorem least_of {P : Nat → Prop} {n : Nat} (h : P n) : ∃ k, k ≤ n ∧ P k ∧ ∀ j, j < k → ¬ P j := by
  induction n using Nat.strongRecOn with
  | ind n ih =>
    by_cases hc : ∃ j, j < n ∧ P j
    · obtain ⟨j, hj, hp⟩ := hc
      obtain ⟨k, h1, h2, h3⟩ := ih j hj hp
      exact ⟨k, by omega, h2, h3⟩
    · exact ⟨n, Nat.le_refl _, h, fun j hj hp => hc ⟨j, hj, hp⟩⟩
/- Right -/
structure OSt (o : Od.O) (w wr : World) : Prop where
  od : OrdAt wr w.heap.size o 36
  bel : Below w.heap.size w wr
theorem OSt.below {o : Od.O} {w W W' : World} (h : OSt o w W) (hb : Below W.heap.size W W') : OSt o w W' := ⟨h.od.below hb, h.bel.trans (hb.mono h.bel.size)⟩
theorem ost_first (o : Od.O) (w : World) : OSt o w (w.alloc (.cells (ordA o) 36)) := ⟨ordAt_new _ _ _, below_new _ _⟩
def RRightRel (o : Od.O) (w : World) (i : Value) (wr : World) : Prop :=
  ∃ k : Nat, k ≤ 32 ∧ i = .int .i64 k ∧ (∀ p : Nat, p < k → ∃ i, i < 32 ∧ o i = (p : Int)) ∧ OSt o w wr
set_option maxHeartbeats 1000000 in
set_option maxRecDepth 100000 in
theorem rright_any (o : Od.O) (w : World) :
    Calls Tryd.prog 61 #[.agg (ordA o)] w fun e w' => e = .returned (.bool (Od.rightB o)) ∧ Below w.heap.size w w' := by
  have H0 := Lib.hid (ost_first o w)
  go_enter Tryd.func61, Tryd.ntmps61
  go_wp2
  go_loopw [3] (RRightRel o w) (fun i _ => 32 - (intOf i).toNat)
  case atStart => exact ⟨0, by omega, rfl, fun p hp => absurd hp (by omega), H0.out⟩
  case round =>
    obtain ⟨k, hk, rfl, hall, hst⟩ := hrel
    have HA := Lib.hid hall
    have HS := Lib.hid hst
    clear hall hst
    by_cases hlt : k < 32
    · by_cases hex : ∃ i, i < 32 ∧ o i = (k : Int)
      · have HX := Lib.hid hex
        obtain ⟨i, hi, he⟩ := hex
        obtain ⟨n, hn, hn2, hn3⟩ := least_of (P := fun i => o i = (k : Int)) he
        have HN2 := Lib.hid hn2
        have HN3 := Lib.hid hn3
        clear he hn2 hn3
        go_wp2_with (refine wpList_load_row rfl 36 (.tmp 1) rfl w.heap.size rfl 36 (ordA o) (0, 0) _ HS.out.od Tryd.underlying36 rfl (rordInfo o) ?_)
        refine (at_yes o _ n _ (by omega) HN2.out HN3.out).mono ?_
        rintro e w1 ⟨rfl, hb1⟩
        have HS1 := Lib.hid (HS.out.below hb1)
        clear hb1
        go_wp2
        refine ⟨⟨k + 1, by omega, by go_num, fun p hp => ?_, HS1.out⟩, by simp [intOf]; omega⟩
        by_cases e : p = k
        · subst e; exact HX.out
        · exact HA.out p (by omega)
      · have HX := Lib.hid (show ∀ j, j < 32 → o j ≠ (k : Int) from fun j hj e => hex ⟨j, hj, e⟩)
        have HF := Lib.hid (Od.rightB_no (o := o) fun h => hex (h k hlt))
        clear hex
        go_wp2_with (refine wpList_load_row rfl 36 (.tmp 1) rfl w.heap.size rfl 36 (ordA o) (0, 0) _ HS.out.od Tryd.underlying36 rfl (rordInfo o) ?_)
        refine (at_no o _ _ HX.out).mono ?_
        rintro e w1 ⟨rfl, hb1⟩
        go_wp2
        go_ret
        rw [HF.out]
        exact ⟨rfl, (HS.out.below hb1).bel⟩
    · obtain rfl : k = 32 := by omega
      have HF := Lib.hid (Od.rightB_yes (o := o) HA.out)
      go_wp2
      go_ret
      rw [HF.out]
      exact ⟨rfl, HS.out.bel⟩
theorem rright_val (o : Od.O) (b : Bool) (w : World) (h : Od.rightB o = b) :
    Calls Tryd.prog 61 #[.agg (ordA o)] w fun e w' => e = .returned (.bool b) ∧ Below w.heap.size w w' := by
  have := rright_any o w
  rw [h] at this; exact this
/- Row -/
def RRowRel (o : Od.O) (w w1 : World) (l i : Value) (wr : World) : Prop :=
  ∃ k : Nat, k ≤ 32 ∧ i = .int .i64 k ∧ Own wr w1.heap.size l ((Od.row o).take k) ∧ Below w1.heap.size w1 wr ∧ OSt o w wr
theorem row_take {o : Od.O} {k : Nat} (hk : k < 32) : (Od.row o).take (k + 1) = (Od.row o).take k ++ [Od.at_ o k] := by
  have hl : k < (Od.row o).length := by rw [Od.row_len]; exact hk
  rw [List.take_succ_eq_append_getElem hl, row_at o hl]
theorem row_take_len {o : Od.O} {k : Nat} (hk : k ≤ 32) : ((Od.row o).take k).length = k := by rw [List.length_take, Od.row_len]; omega
set_option maxHeartbeats 1000000 in
set_option maxRecDepth 100000 in
theorem rrow_yes (o : Od.O) (w : World) (hr : Od.Right o) : Calls Tryd.prog 75 #[.agg (ordA o)] w (RowPost o w) := by
  obtain ⟨i0, hi, hz0, hz1, hz2⟩ := info_parts int_info
  have HR := Lib.hid hr
  have HB := Lib.hid (Od.rightB_yes hr)
  have H0 := Lib.hid (ost_first o w)
  clear hr
  go_enter Tryd.func75, Tryd.ntmps75
  go_wp2_with (refine wpList_load_row rfl 36 (.tmp 1) rfl w.heap.size rfl 36 (ordA o) (0, 0) _ H0.out.od Tryd.underlying36 rfl (rordInfo o) ?_)
  refine (rright_val o true _ HB.out).mono ?_
  rintro e w1 ⟨rfl, hb1⟩
  have H1 := Lib.hid (H0.out.below hb1)
  clear hb1 H0
  go_wp2
  go_loopw [3, 4] (RRowRel o w w1) (fun _ i _ => 32 - (intOf i).toNat)
  case atStart => exact ⟨0, by omega, rfl, own_nil _ _, Below.refl _ _, H1.out⟩
  case round =>
    obtain ⟨k, hk, rfl, ho, hb, hst⟩ := hrel
    have HOw := Lib.hid ho
    have HBr := Lib.hid hb
    have HS := Lib.hid hst
    clear ho hb hst
    by_cases hlt : k < 32
    · have HN := Lib.hid (row_take (o := o) hlt)
      have ha := (Od.at_spec HR.out hlt).1
      go_wp2_with (refine wpList_load_row rfl 36 (.tmp 1) rfl w.heap.size rfl 36 (ordA o) (0, 0) _ HS.out.od Tryd.underlying36 rfl (rordInfo o) ?_)
      refine (at_place o k _ HR.out hlt).mono ?_
      rintro e w2 ⟨rfl, hb2⟩
      have HO2 := Lib.hid (HOw.out.below hb2 (Nat.le_refl _))
      have HB2 := Lib.hid (HBr.out.trans (hb2.mono HBr.out.size))
      have HS2 := Lib.hid (HS.out.below hb2)
      have hsz := HB2.out.size
      have hlen : ((Od.row o).take k).length ≤ 32 := by rw [row_take_len hk]; exact hk
      have hw2 : w.heap.size < w2.heap.size := HS2.out.od.lt
      clear hb2 HOw HBr HS
      go_wp2_with (at_builtin; refine wpList_append_own _ rfl _ _ 48 rfl w1.heap.size 3 i0 (.int .i64 0) 1 8 Tryd.underlying48 hi hz0 hz1 hz2 rfl (by decide) _ _ _ rfl (World.ownsRow.alloc HO2.out _) ⟨w2.heap.size, 0, none⟩ 1 1 [.int .i64 (Od.at_ o k : Nat)] rfl rfl ?c1 ?c2 ?c3 ?c4 ?c5 ?_)
      case c1 =>
        intro j u hj
        match j, hj with
        | 0, hj => simp at hj; subst hj; simp [Addr.add]
      case c2 => intro u hu; simp at hu; subst hu; rfl
      case c3 => unfold maxLen; omega
      case c4 => omega
      case c5 => simp; omega
      intro v' w3 hown' hgrow _
      have HO' := Lib.hid hown'
      have HS3 := Lib.hid (show OSt o w w3 from ⟨grown_ord (HS2.out.od.alloc _) hgrow (fun e => by
          have := (World.ownsRow.lt HO2.out _ e.symm).1
          have := H1.out.od.lt
          omega), (HS2.out.bel.alloc HS2.out.bel.size _).grown hgrow (by have := HS2.out.bel.size; simp; omega) (fun k hk => by
          have := (World.ownsRow.lt HO2.out k hk).1
          have := H1.out.od.lt
          omega)⟩)
      have HB3 := Lib.hid ((HB2.out.alloc HB2.out.size _).grown hgrow (by simp; omega) (fun k hk => (World.ownsRow.lt HO2.out k hk).1))
      clear hown' hgrow
      go_wp2
      refine ⟨⟨k + 1, by omega, by go_num, ?_, HB3.out, HS3.out⟩, by simp [intOf]; omega⟩
      have h := HO'.out
      rw [show min k (Od.row o).length = k from by rw [Od.row_len]; omega] at h
      unfold Own
      rw [HN.out, vals_snoc, List.length_append, row_take_len (by omega)]; exact h
    · obtain rfl : k = 32 := by omega
      go_wp2
      go_ret
      refine ⟨_, rfl, ?_, HS.out.bel⟩
      have h := HOw.out
      rw [List.take_of_length_le (by rw [Od.row_len]; exact Nat.le_refl _)] at h
      exact h.mono H1.out.bel.size
set_option maxHeartbeats 1000000 in
set_option maxRecDepth 100000 in
theorem rrow_no (o : Od.O) (w : World) (hr : ¬ Od.Right o) :
    Calls Tryd.prog 75 #[.agg (ordA o)] w fun e w' => e = .returned (.slice none 0 0) ∧ Below w.heap.size w w' := by
  have HB := Lib.hid (Od.rightB_no hr)
  have H0 := Lib.hid (ost_first o w)
  clear hr
  go_enter Tryd.func75, Tryd.ntmps75
  go_wp2_with (refine wpList_load_row rfl 36 (.tmp 1) rfl w.heap.size rfl 36 (ordA o) (0, 0) _ H0.out.od Tryd.underlying36 rfl (rordInfo o) ?_)
  refine (rright_val o false _ HB.out).mono ?_
  rintro e w1 ⟨rfl, hb1⟩
  go_wp2
  go_ret
  exact ⟨rfl, (H0.out.below hb1).bel⟩
end Go.Proofs.YtakoceablbgchaaDoor
namespace Go.Proofs.YtakoceablbgchaaDoor
open Go.RowKit
/-- the first k nodes' edges cut, if their places are out. -/
def Out (o : Od.O) (lo hi : Int) (i : Nat) : Prop := o i < lo ∨ hi < o i
open Classical in
noncomputable def nearTo (m : Mm.Gr) (o : Od.O) (lo hi : Int) : Nat → Mm.Gr
  | 0 => m
  | k + 1 => if Out o lo hi k then Mm.cut (nearTo m o lo hi k) k else nearTo m o lo hi k
theorem nearTo_yes {m : Mm.Gr} {o : Od.O} {lo hi : Int} {k : Nat} (h : Out o lo hi k) : Mm.cut (nearTo m o lo hi k) k = nearTo m o lo hi (k + 1) := by rw [nearTo, if_pos h]
theorem nearTo_no {m : Mm.Gr} {o : Od.O} {lo hi : Int} {k : Nat} (h : ¬ Out o lo hi k) : nearTo m o lo hi k = nearTo m o lo hi (k + 1) := by rw [nearTo, if_neg h]
theorem nearTo_ok {m : Mm.Gr} (o : Od.O) (lo hi : Int) (k : Nat) (hm : Mm.Ok m) : Mm.Ok (nearTo m o lo hi k) := by
  induction k with
  | zero => exact hm
  | succ k ih =>
    by_cases h : Out o lo hi k
    · rw [← nearTo_yes h]; exact Mm.cut_ok k ih
    · rw [← nearTo_no h]; exact ih
theorem nearTo_E {m : Mm.Gr} {o : Od.O} {lo hi : Int} (hm : Mm.Ok m) (k : Nat) (hk : k ≤ 32) (i j : Nat) : Mm.E (nearTo m o lo hi k) i j ↔ Mm.E m i j ∧ (i < k → ¬ Out o lo hi i) ∧ (j < k → ¬ Out o lo hi j) := by
  induction k with
  | zero =>
    show Mm.E m i j ↔ _
    simp
  | succ k ih =>
    have ih := ih (by omega)
    by_cases h : Out o lo hi k
    · rw [← nearTo_yes h, Mm.cut_E (nearTo_ok o lo hi k hm) (by omega), ih]
      constructor
      · rintro ⟨⟨h1, h2, h3⟩, h4, h5⟩
        exact ⟨h1, fun hi => h2 (by omega), fun hj => h3 (by omega)⟩
      · rintro ⟨h1, h2, h3⟩
        refine ⟨⟨h1, fun hi => h2 (by omega), fun hj => h3 (by omega)⟩, fun e => ?_, fun e => ?_⟩
        · subst e; exact h2 (by omega) h
        · subst e; exact h3 (by omega) h
    · rw [← nearTo_no h, ih]
      constructor
      · rintro ⟨h1, h2, h3⟩
        refine ⟨h1, fun hi => ?_, fun hj => ?_⟩
        · by_cases e : i = k
          · subst e; exact h
          · exact h2 (by omega)
        · by_cases e : j = k
          · subst e; exact h
          · exact h3 (by omega)
      · rintro ⟨h1, h2, h3⟩
        exact ⟨h1, fun hi => h2 (by omega), fun hj => h3 (by omega)⟩
theorem near_E {m : Mm.Gr} {o : Od.O} {a b : Nat} (hm : Mm.Ok m) (i j : Nat) : Mm.E (nearTo m o (o b) (o a) 32) i j ↔ Od.near m o a b i j := by
  rw [nearTo_E hm 32 (Nat.le_refl _)]
  unfold Od.near Od.In Out
  constructor
  · rintro ⟨h1, h2, h3⟩
    have hi := h1.1
    have hj := h1.2.1
    have h2 := h2 hi
    have h3 := h3 hj
    exact ⟨h1, ⟨hi, by omega, by omega⟩, ⟨hj, by omega, by omega⟩⟩
  · rintro ⟨h1, h2, h3⟩
    exact ⟨h1, fun _ => by omega, fun _ => by omega⟩
theorem near_fore {m : Mm.Gr} {o : Od.O} {a b : Nat} (hm : Mm.Ok m) : Sm.add (Mm.ways (Mm.E (nearTo m o (o b) (o a) 32)) b) (b : Int) = Od.fore m o a b := by
  unfold Od.fore
  congr 1
  refine Mm.ways_congr fun j => ?_
  exact ⟨fun h => h.mono fun _ _ h => (near_E hm _ _).1 h, fun h => h.mono fun _ _ h => (near_E hm _ _).2 h⟩
theorem near_hind {m : Mm.Gr} {o : Od.O} {a b : Nat} (hm : Mm.Ok m) : Sm.add (Mm.ways (Mm.E (turn (nearTo m o (o b) (o a) 32))) a) (a : Int) = Od.hind m o a b := by
  unfold Od.hind
  congr 1
  refine Mm.ways_congr fun j => ?_
  exact ⟨fun h => h.mono fun _ _ h => (near_E hm _ _).1 ((turn_E _ _ _).1 h), fun h => h.mono fun _ _ h => (turn_E _ _ _).2 ((near_E hm _ _).2 h)⟩
structure WSt (w : World) (o : Od.O) (n : Mm.Gr) (wr : World) : Prop where
  gr : MatAt wr w.heap.size n 35
  od : OrdAt wr (w.heap.size + 1) o 36
  res : ∃ x, MatAt wr (w.heap.size + 2) x 35
  bel : Below w.heap.size w wr
theorem WSt.below {w W W' : World} {o : Od.O} {n : Mm.Gr} (h : WSt w o n W) (hb : Below W.heap.size W W') : WSt w o n W' :=
  ⟨h.gr.below hb, h.od.below hb, h.res.imp fun _ h => h.below hb, h.bel.trans (hb.mono h.bel.size)⟩
theorem WSt.put {w W : World} {o : Od.O} {n k : Mm.Gr} (h : WSt w o n W) : WSt w o k (W.setRow w.heap.size (matA k)) :=
  ⟨matAt_put h.gr, h.od.setRow _ (by omega), h.res.imp fun _ h => h.setRow _ (by omega), setRow_below h.bel (Nat.le_refl _)⟩
def WRel (m : Mm.Gr) (o : Od.O) (lo hi : Int) (w : World) (i : Value) (wr : World) : Prop :=
  ∃ k : Nat, k ≤ 32 ∧ i = .int .i64 k ∧ WSt w o (nearTo m o lo hi k) wr
set_option maxHeartbeats 1000000 in
set_option maxRecDepth 100000 in
theorem within_any (m : Mm.Gr) (o : Od.O) (lo hi : Int) (w : World) (hm : Mm.Ok m) :
    Calls Tryd.prog 72 #[.agg (matA m), .agg (ordA o), .int .i64 lo, .int .i64 hi] w fun e w' => e = .returned (.agg (matA (nearTo m o lo hi 32))) ∧ Below w.heap.size w w' := by
  go_enter Tryd.func72, Tryd.ntmps72
  go_wp2
  go_loopw [9] (WRel m o lo hi w) (fun i _ => 32 - (intOf i).toNat)
  case atStart =>
    refine ⟨0, by omega, rfl, ?_, ?_, ⟨zeroM, ?_⟩, (((Below.refl _ _).alloc (Nat.le_refl _) _).alloc (by simp) _).alloc (by simp; omega) _⟩
    · exact ((matAt_new w m 35).alloc _).alloc _
    · refine OrdAt.alloc ?_ _
      have := ordAt_new (w.alloc (.cells (matA m) 35)) o 36
      simpa using this
    · have := zero_lit ((w.alloc (.cells (matA m) 35)).alloc (.cells (ordA o) 36)) 35
      have h2 : MatAt (((w.alloc (.cells (matA m) 35)).alloc (.cells (ordA o) 36)).alloc (.cells (Array.replicate 32 (Value.int .u64 0)) 35)) (w.heap.size + 2) zeroM 35 := by simpa using this
      exact h2
  case round =>
    obtain ⟨k, hk, rfl, hst⟩ := hrel
    have HS := Lib.hid hst
    by_cases hlt : k < 32
    · have hc := hst.od.cell k hlt
      have HO := Lib.hid (nearTo_ok o lo hi k hm)
      clear hst
      by_cases h1 : o k < lo
      · have HN := Lib.hid (nearTo_yes (m := m) (show Out o lo hi k from .inl h1))
        go_wp2_with (refine wpList_load_row rfl 35 (.tmp 4) rfl w.heap.size rfl 35 _ (0, 0) _ HS.out.gr Tryd.underlying35 rfl (rmatInfo _) ?_)
        refine (rcut_in _ k _ HO.out hlt).mono ?_
        rintro e w1 ⟨rfl, hb1⟩
        have HS1 := Lib.hid (HS.out.below hb1)
        clear hb1 hc
        go_wp2_with (refine wpList_store_row rfl 35 (.tmp 4) (.tmp 28) rfl w.heap.size (matA (Mm.cut (nearTo m o lo hi k) k)) rfl rfl 35 _ HS1.out.gr (rmatInfo _) (by rw [matA_size, matA_size]) (matA_one _) ?_)
        refine ⟨⟨k + 1, by omega, by go_num, ?_⟩, by simp [intOf]; omega⟩
        rw [← HN.out]
        exact HS1.out.put
      · have hd1 : decide (o k < lo) = false := by simpa using h1
        by_cases h2 : hi < o k
        · have HN := Lib.hid (nearTo_yes (m := m) (show Out o lo hi k from .inr h2))
          go_wp2_with (refine wpList_load_row rfl 35 (.tmp 4) rfl w.heap.size rfl 35 _ (0, 0) _ HS.out.gr Tryd.underlying35 rfl (rmatInfo _) ?_)
          refine (rcut_in _ k _ HO.out hlt).mono ?_
          rintro e w1 ⟨rfl, hb1⟩
          have HS1 := Lib.hid (HS.out.below hb1)
          clear hb1 hc
          go_wp2_with (refine wpList_store_row rfl 35 (.tmp 4) (.tmp 28) rfl w.heap.size (matA (Mm.cut (nearTo m o lo hi k) k)) rfl rfl 35 _ HS1.out.gr (rmatInfo _) (by rw [matA_size, matA_size]) (matA_one _) ?_)
          refine ⟨⟨k + 1, by omega, by go_num, ?_⟩, by simp [intOf]; omega⟩
          rw [← HN.out]
          exact HS1.out.put
        · have hd2 : decide (hi < o k) = false := by simpa using h2
          have HN := Lib.hid (nearTo_no (m := m) (show ¬ Out o lo hi k from fun h => h.elim h1 h2))
          go_wp2
          refine ⟨⟨k + 1, by omega, by go_num, ?_⟩, by simp [intOf]; omega⟩
          rw [← HN.out]
          exact HS.out
    · obtain rfl : k = 32 := by omega
      clear hst
      obtain ⟨x, hx⟩ := HS.out.res
      have HX := Lib.hid hx
      clear hx
      go_wp2_with (first
        | (refine wpList_load_row rfl 35 (.tmp 4) rfl w.heap.size rfl 35 _ (0, 0) _ HS.out.gr Tryd.underlying35 rfl (rmatInfo _) ?_)
        | (refine wpList_store_row rfl 35 (.tmp 8) (.tmp 29) rfl (w.heap.size + 2) _ rfl rfl 35 _ HX.out (rmatInfo _) (by rw [matA_size, matA_size]) (matA_one _) ?_))
      refine bodyPost_ret (results_cell_row rfl _ _ (w.heap.size + 2) 35 (matA (nearTo m o lo hi 32)) (0, 0) _ rfl (setRow_heap _ _ _ _ _ _ HX.out) Tryd.underlying35 rfl (rmatInfo _)) rfl ⟨rfl, ?_⟩
      exact setRow_below HS.out.bel (by omega)
/- Sorted -/
structure TSt (m : Mm.Gr) (o : Od.O) (w wr : World) : Prop where
  gr : MatAt wr w.heap.size m 35
  od : OrdAt wr (w.heap.size + 1) o 36
  bel : Below w.heap.size w wr
theorem TSt.below {m : Mm.Gr} {o : Od.O} {w W W' : World} (h : TSt m o w W) (hb : Below W.heap.size W W') : TSt m o w W' :=
  ⟨h.gr.below hb, h.od.below hb, h.bel.trans (hb.mono h.bel.size)⟩
theorem tst_first (m : Mm.Gr) (o : Od.O) (w : World) : TSt m o w ((w.alloc (.cells (matA m) 35)).alloc (.cells (ordA o) 36)) := by
  refine ⟨(matAt_new _ _ _).alloc _, ?_, ((Below.refl _ _).alloc (Nat.le_refl _) _).alloc (by simp) _⟩
  have := ordAt_new (w.alloc (.cells (matA m) 35)) o 36
  simpa using this
def RSortRel (m : Mm.Gr) (o : Od.O) (w : World) (i : Value) (wr : World) : Prop :=
  ∃ k : Nat, k ≤ 32 ∧ i = .int .i64 k ∧ (∀ i j, i < k → Mm.E m i j → o i < o j) ∧ TSt m o w wr
def RSortIn (m : Mm.Gr) (o : Od.O) (w : World) (k g : Nat) (i : Value) (wr : World) : Prop :=
  ∃ n : Nat, n ≤ 32 ∧ i = .int .i64 n ∧ (∀ j, j < n → Mm.E m k j → o k < o j) ∧ BitsAt wr g (Mm.outs m k) ∧ TSt m o w wr
set_option maxHeartbeats 1000000 in
set_option maxRecDepth 100000 in
theorem rsorted_any (m : Mm.Gr) (o : Od.O) (w : World) (hm : Mm.Ok m) :
    Calls Tryd.prog 37 #[.agg (matA m), .agg (ordA o)] w fun e w' => e = .returned (.bool (Od.sortedB m o)) ∧ Below w.heap.size w w' := by
  have H0 := Lib.hid (tst_first m o w)
  go_enter Tryd.func37, Tryd.ntmps37
  go_wp2
  go_loopw [5] (RSortRel m o w) (fun i _ => 32 - (intOf i).toNat)
  case atStart => exact ⟨0, by omega, rfl, fun i j hi => absurd hi (by omega), H0.out⟩
  case round =>
    obtain ⟨k, hk, rfl, hS, hst⟩ := hrel
    have HS := Lib.hid hS
    have HST := Lib.hid hst
    clear hS hst
    by_cases hlt : k < 32
    · have hl := Mm.outs_lt m k
      have hl64 : Mm.outs m k < 18446744073709551616 := by omega
      go_wp2_with (refine wpList_load_row rfl 35 (.tmp 2) rfl w.heap.size rfl 35 (matA m) (0, 0) _ HST.out.gr Tryd.underlying35 rfl (rmatInfo m) ?_)
      refine (routs_in m k _ hm hlt).mono ?_
      rintro e w2 ⟨rfl, hb2⟩
      have HS2 := Lib.hid (HST.out.below hb2)
      clear hb2
      go_wp2_with fail
      refine (bits_any _ _ hl64).mono ?_
      rintro e w3 ⟨rfl, hb3⟩
      have HS3 := Lib.hid ((HS2.out.below hb3).below (below_new _ (.cells (bitArr (Mm.outs m k) 64) 99)))
      have HB3 := Lib.hid (bitsAt_new w3 (Mm.outs m k))
      clear hb3
      go_wp2_with (refine wpList_store_row rfl 99 (.tmp 6) (.tmp 15) rfl w3.heap.size (bitArr (Mm.outs m k) 64) rfl rfl 99 _ (heap_alloc_new _ _) (boolInfo _) (by rw [bitArr_size]; rfl) (bitArr_one _ _) ?_; rw [World.setRow_alloc_new])
      go_loopw [7] (RSortIn m o w k w3.heap.size) (fun i _ => 32 - (intOf i).toNat)
      case atStart => exact ⟨0, by omega, rfl, fun j hj => absurd hj (by omega), HB3.out, HS3.out⟩
      case round =>
        obtain ⟨n, hn, rfl, hlow, hB, hst⟩ := hrel
        have HLow := Lib.hid hlow
        have HBr := Lib.hid hB
        have HSr := Lib.hid hst
        clear hlow
        by_cases hnl : n < 32
        · have hc := hB.cell n (by omega)
          have d1 := hst.od.cell k hlt
          have d2 := hst.od.cell n hnl
          clear hB hst
          cases ht : (Mm.outs m k).testBit n
          · rw [ht] at hc
            have HNE := Lib.hid (show ¬ Mm.E m k n from fun h => by rw [(Mm.outs_test m k n).2 h] at ht; cases ht)
            clear ht
            go_wp2
            go_quiet (fail)
            go_wp2
            refine ⟨⟨n + 1, by omega, by go_num, fun j hj he => ?_, HBr.out.below (below_drewN (Below.refl _ _) _), HSr.out.below (below_drewN (Below.refl _ _) _)⟩, by simp [intOf]; omega⟩
            by_cases e : j = n
            · subst e; exact absurd he HNE.out
            · exact HLow.out j (by omega) he
          · rw [ht] at hc
            have HE := Lib.hid ((Mm.outs_test m k n).1 ht)
            clear ht
            by_cases hlow : o k < o n
            · go_wp2
              go_quiet (fail)
              go_wp2
              refine ⟨⟨n + 1, by omega, by go_num, fun j hj he => ?_, HBr.out.below (below_drewN (Below.refl _ _) _), HSr.out.below (below_drewN (Below.refl _ _) _)⟩, by simp [intOf]; omega⟩
              by_cases e : j = n
              · subst e; exact hlow
              · exact HLow.out j (by omega) he
            · have hge : o n ≤ o k := by omega
              have HF := Lib.hid (Od.sortedB_no (m := m) (o := o) fun h => hlow (h.2 k n HE.out))
              go_wp2
              go_quiet (fail)
              go_wp2
              go_ret
              rw [HF.out]
              exact ⟨rfl, (HSr.out.below (below_drewN (Below.refl _ _) _)).bel⟩
        · obtain rfl : n = 32 := by omega
          clear hB hst
          go_wp2
          refine ⟨⟨k + 1, by omega, by go_num, fun i j hi he => ?_, HSr.out⟩, by simp [intOf]; omega⟩
          by_cases e : i = k
          · subst e
            exact HLow.out j he.2.1 he
          · exact HS.out i j (by omega) he
    · obtain rfl : k = 32 := by omega
      have HF := Lib.hid (show Od.rightB o = Od.sortedB m o from by
        by_cases hr : Od.Right o
        · rw [Od.rightB_yes hr, Od.sortedB_yes ⟨hr, fun i j he => HS.out i j he.1 he⟩]
        · rw [Od.rightB_no hr, Od.sortedB_no fun h => hr h.1])
      go_wp2_with (refine wpList_load_row rfl 36 (.tmp 3) rfl (w.heap.size + 1) rfl 36 (ordA o) (0, 0) _ HST.out.od Tryd.underlying36 rfl (rordInfo o) ?_)
      refine (rright_val o _ _ HF.out).mono ?_
      rintro e w2 ⟨rfl, hb2⟩
      go_wp2
      go_ret
      exact ⟨rfl, (HST.out.below hb2).bel⟩
theorem rsorted_val (m : Mm.Gr) (o : Od.O) (b : Bool) (w : World) (hm : Mm.Ok m) (h : Od.sortedB m o = b) :
    Calls Tryd.prog 37 #[.agg (matA m), .agg (ordA o)] w fun e w' => e = .returned (.bool b) ∧ Below w.heap.size w w' := by
  have := rsorted_any m o w hm
  rw [h] at this; exact this
end Go.Proofs.YtakoceablbgchaaDoor
