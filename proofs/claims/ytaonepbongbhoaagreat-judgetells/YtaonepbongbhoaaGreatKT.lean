/-
  Contracts of the document's own answers for graphs: Node, Outs, Has, Put and Cut.
  Contracts of the document's own answers for graphs: Turn, and Sum of sets.
  Contracts of the document's own answers for graphs: Reach and Free.
-/
import Derived.Test.YtaonepbongbhoaaGreatKE
import Derived.Deep.WholeRow
import Derived.Test.YtaonepbongbhoaaGreatKA
import Derived.Deep.LoopGhost
namespace Go.Proofs.YtaonepbongbhoaaGreat
open Go.RowKit
set_option maxHeartbeats 400000 in
theorem rnode_yes (a : Nat) (w : World) (h : a < 32) : Calls Tryz.prog 76 #[.int .i64 (a : Nat)] w fun e w' => e = .returned (.bool true) ∧ w = w' := by
  go_enter Tryz.func76, Tryz.ntmps76
  go_wp2
  go_ret
  refine ⟨ret_bool ?_, rfl⟩
  simp; omega
set_option maxHeartbeats 400000 in
theorem rnode_no (a : Int) (w : World) (h : Far a) : Calls Tryz.prog 76 #[.int .i64 a] w fun e w' => e = .returned (.bool false) ∧ w = w' := by
  obtain ⟨_, h⟩ := h
  by_cases hn : a < 0
  · have hd : decide (0 ≤ a) = false := by simp; omega
    go_enter Tryz.func76, Tryz.ntmps76
    go_wp2
    go_ret
    exact ⟨rfl, rfl⟩
  · have h0 : 0 ≤ a := by omega
    have hd : decide (a < 32) = false := by simp; omega
    go_enter Tryz.func76, Tryz.ntmps76
    go_wp2
    go_ret
    exact ⟨rfl, rfl⟩
theorem rwith_val (x k y : Nat) (w : World) (hx : x < 18446744073709551616) (hk : k < 64) (h : Sm.add x (k : Nat) = y) :
    Calls Tryz.prog 25 #[.int .u64 x, .int .i64 (k : Nat)] w fun e w' => e = .returned (.int .u64 (y : Nat)) ∧ w = w' := by
  have := rwith_any x (k : Nat) w hx (by omega) (by omega)
  rw [h] at this
  exact this
set_option maxHeartbeats 400000 in
theorem routs_in (m : Mm.Gr) (a : Nat) (w : World) (hm : Mm.Ok m) (ha : a < 32) :
    Calls Tryz.prog 78 #[.agg (matA m), .int .i64 (a : Nat)] w fun e w' => e = .returned (.int .u64 (Mm.outs m a : Nat)) ∧ Below w.heap.size w w' := by
  have hg := matA_get m a ha
  have H2 := Lib.hid (outs_of (m := m) ha)
  have hma := hm a ha
  go_enter Tryz.func78, Tryz.ntmps78
  go_wp2_with (go_at_call 76; refine (rnode_yes _ _ ha).mono ?_; rintro e w' ⟨rfl, rfl⟩)
  go_ret
  rw [H2.out]
  exact ⟨ret_int (by omega), (Below.refl _ _).alloc (Nat.le_refl _) _⟩
set_option maxHeartbeats 400000 in
theorem routs_far (m : Mm.Gr) (a : Int) (w : World) (ha : Far a) :
    Calls Tryz.prog 78 #[.agg (matA m), .int .i64 a] w fun e w' => e = .returned (.int .u64 0) ∧ Below w.heap.size w w' := by
  go_enter Tryz.func78, Tryz.ntmps78
  go_wp2_with (go_at_call 76; refine (rnode_no _ _ ha).mono ?_; rintro e w' ⟨rfl, rfl⟩)
  go_ret
  exact ⟨rfl, (Below.refl _ _).alloc (Nat.le_refl _) _⟩
theorem edge_both {m : Mm.Gr} {a b : Nat} (hm : Mm.Ok m) (ha : a < 32) (hb : b < 32) : Sm.has (m a) (b : Nat) = edge m (a : Nat) (b : Nat) := by
  rw [Sm.has_nat b (hm a ha), ← edge_in, Sm.has_nat b (by have := Mm.outs_lt m a; omega)]
  rw [Bool.eq_iff_iff, Mm.outs_test]
  unfold Mm.E
  simp [ha, hb]
set_option maxHeartbeats 1000000 in
theorem rmhas_in (m : Mm.Gr) (a b : Nat) (w : World) (hm : Mm.Ok m) (ha : a < 32) (hb : b < 32) :
    Calls Tryz.prog 53 #[.agg (matA m), .int .i64 (a : Nat), .int .i64 (b : Nat)] w fun e w' => e = .returned (.bool (edge m (a : Nat) (b : Nat))) ∧ Below w.heap.size w w' := by
  have hg := matA_get m a ha
  have hma := hm a ha
  have HE := Lib.hid (edge_both hm ha hb)
  go_enter Tryz.func53, Tryz.ntmps53
  go_wp2_with (first
    | (go_at_call 76; refine (rnode_yes _ _ (by assumption)).mono ?_; rintro e w' ⟨rfl, rfl⟩)
    | (go_at_call 50; refine (rhas_val _ _ _ _ hma (by omega) (by omega) HE.out).mono ?_; rintro e w' ⟨rfl, rfl⟩))
  go_ret
  exact ⟨rfl, (Below.refl _ _).alloc (Nat.le_refl _) _⟩
set_option maxHeartbeats 1000000 in
theorem rmhas_far1 (m : Mm.Gr) (a b : Int) (w : World) (ha : Far a) :
    Calls Tryz.prog 53 #[.agg (matA m), .int .i64 a, .int .i64 b] w fun e w' => e = .returned (.bool false) ∧ Below w.heap.size w w' := by
  go_enter Tryz.func53, Tryz.ntmps53
  go_wp2_with (first
    | (go_at_call 76; refine (rnode_no _ _ ha).mono ?_; rintro e w' ⟨rfl, rfl⟩))
  go_ret
  exact ⟨rfl, (Below.refl _ _).alloc (Nat.le_refl _) _⟩
set_option maxHeartbeats 1000000 in
theorem rmhas_far2 (m : Mm.Gr) (a : Nat) (b : Int) (w : World) (ha : a < 32) (hb : Far b) :
    Calls Tryz.prog 53 #[.agg (matA m), .int .i64 (a : Nat), .int .i64 b] w fun e w' => e = .returned (.bool false) ∧ Below w.heap.size w w' := by
  go_enter Tryz.func53, Tryz.ntmps53
  go_wp2_with (first
    | (go_at_call_of 76 b; refine (rnode_no _ _ hb).mono ?_; rintro e w' ⟨rfl, rfl⟩)
    | (go_at_call 76; refine (rnode_yes _ _ ha).mono ?_; rintro e w' ⟨rfl, rfl⟩))
  go_ret
  exact ⟨rfl, (Below.refl _ _).alloc (Nat.le_refl _) _⟩
set_option maxHeartbeats 1000000 in
set_option maxRecDepth 100000 in
theorem rput_yes (m : Mm.Gr) (a b : Nat) (w : World) (hm : Mm.Ok m) (ha : a < 32) (hb : b < 32) (hab : a ≠ b) :
    Calls Tryz.prog 49 #[.agg (matA m), .int .i64 (a : Nat), .int .i64 (b : Nat)] w fun e w' => e = .returned (.tuple #[.agg (matA (Mm.put m a b)), .bool true]) ∧ Below w.heap.size w w' := by
  have hne : (((a : Nat) : Int) == ((b : Nat) : Int)) = false := by simp; omega
  have hg := matA_get m a ha
  have hma := hm a ha
  have HP := Lib.hid (matA_ext (put_eq (m := m) (a := a) (b := b)))
  have HS := Lib.hid (matA_set m a (Sm.add (m a) (b : Nat)))
  have HI := Lib.hid (rmatInfo m)
  go_enter Tryz.func49, Tryz.ntmps49
  go_wp2_with (first
    | (go_at_call 76; refine (rnode_yes _ _ (by assumption)).mono ?_; rintro e w' ⟨rfl, rfl⟩)
    | (go_at_call 25; refine (rwith_val _ _ _ _ hma (by omega) rfl).mono ?_; rintro e w' ⟨rfl, rfl⟩)
    | (refine wpList_load_row rfl 56 (.tmp 3) rfl w.heap.size rfl 56 _ (0, 0) _ (heap_alloc2_old _ _ _) Tryz.underlying56 rfl (by rw [Array.size_setIfInBounds]; exact HI.out) ?_)
    | (refine wpList_store_row rfl 56 (.tmp 6) (.tmp 29) rfl (w.heap.size + 1) _ rfl rfl 56 _ (heap_alloc2_new _ _ _) (by rw [Array.size_setIfInBounds]; exact HI.out) (by rw [Array.size_setIfInBounds, matA_size]; rfl) (by rw [HS.out]; exact matA_one _) ?_))
  rw [HS.out, HP.out]
  refine bodyPost_ret (results_row_tmp rfl _ _ (w.heap.size + 1) 56 _ (0, 0) _ _ (.bool true) rfl rfl (setRow_heap _ _ _ _ _ _ (heap_alloc2_new _ _ _)) Tryz.underlying56 (rmatInfo _)) rfl ⟨rfl, ?_⟩
  exact setRow_below (((Below.refl _ _).alloc (Nat.le_refl _) _).alloc (by simp) _) (by omega)
set_option maxHeartbeats 1000000 in
set_option maxRecDepth 100000 in
theorem rput_no1 (m : Mm.Gr) (a b : Int) (w : World) (ha : Far a) :
    Calls Tryz.prog 49 #[.agg (matA m), .int .i64 a, .int .i64 b] w fun e w' => e = .returned (.tuple #[.agg (matA m), .bool false]) ∧ Below w.heap.size w w' := by
  go_enter Tryz.func49, Tryz.ntmps49
  go_wp2_with (first
    | (go_at_call 76; refine (rnode_no _ _ ha).mono ?_; rintro e w' ⟨rfl, rfl⟩)
    | (refine wpList_load_row rfl 56 (.tmp 3) rfl w.heap.size rfl 56 (matA m) (0, 0) _ (heap_alloc2_old _ _ _) Tryz.underlying56 rfl (rmatInfo m) ?_)
    | (refine wpList_store_row rfl 56 (.tmp 6) (.tmp 21) rfl (w.heap.size + 1) (matA m) rfl rfl 56 _ (heap_alloc2_new _ _ _) (rmatInfo m) (by rw [matA_size]; rfl) (matA_one _) ?_))
  refine bodyPost_ret (results_row_tmp rfl _ _ (w.heap.size + 1) 56 (matA m) (0, 0) _ _ (.bool false) rfl rfl (setRow_heap _ _ _ _ _ _ (heap_alloc2_new _ _ _)) Tryz.underlying56 (rmatInfo _)) rfl ⟨rfl, ?_⟩
  exact setRow_below (((Below.refl _ _).alloc (Nat.le_refl _) _).alloc (by simp) _) (by omega)
set_option maxHeartbeats 1000000 in
set_option maxRecDepth 100000 in
theorem rput_no2 (m : Mm.Gr) (a : Nat) (b : Int) (w : World) (ha : a < 32) (hb : Far b) :
    Calls Tryz.prog 49 #[.agg (matA m), .int .i64 (a : Nat), .int .i64 b] w fun e w' => e = .returned (.tuple #[.agg (matA m), .bool false]) ∧ Below w.heap.size w w' := by
  go_enter Tryz.func49, Tryz.ntmps49
  go_wp2_with (first
    | (go_at_call_of 76 b; refine (rnode_no _ _ hb).mono ?_; rintro e w' ⟨rfl, rfl⟩)
    | (go_at_call 76; refine (rnode_yes _ _ ha).mono ?_; rintro e w' ⟨rfl, rfl⟩)
    | (refine wpList_load_row rfl 56 (.tmp 3) rfl w.heap.size rfl 56 (matA m) (0, 0) _ (heap_alloc2_old _ _ _) Tryz.underlying56 rfl (rmatInfo m) ?_)
    | (refine wpList_store_row rfl 56 (.tmp 6) (.tmp 21) rfl (w.heap.size + 1) (matA m) rfl rfl 56 _ (heap_alloc2_new _ _ _) (rmatInfo m) (by rw [matA_size]; rfl) (matA_one _) ?_))
  refine bodyPost_ret (results_row_tmp rfl _ _ (w.heap.size + 1) 56 (matA m) (0, 0) _ _ (.bool false) rfl rfl (setRow_heap _ _ _ _ _ _ (heap_alloc2_new _ _ _)) Tryz.underlying56 (rmatInfo _)) rfl ⟨rfl, ?_⟩
  exact setRow_below (((Below.refl _ _).alloc (Nat.le_refl _) _).alloc (by simp) _) (by omega)
set_option maxHeartbeats 1000000 in
set_option maxRecDepth 100000 in
theorem rput_no3 (m : Mm.Gr) (a : Nat) (w : World) (ha : a < 32) :
    Calls Tryz.prog 49 #[.agg (matA m), .int .i64 (a : Nat), .int .i64 (a : Nat)] w fun e w' => e = .returned (.tuple #[.agg (matA m), .bool false]) ∧ Below w.heap.size w w' := by
  go_enter Tryz.func49, Tryz.ntmps49
  go_wp2_with (first
    | (go_at_call 76; refine (rnode_yes _ _ ha).mono ?_; rintro e w' ⟨rfl, rfl⟩)
    | (refine wpList_load_row rfl 56 (.tmp 3) rfl w.heap.size rfl 56 (matA m) (0, 0) _ (heap_alloc2_old _ _ _) Tryz.underlying56 rfl (rmatInfo m) ?_)
    | (refine wpList_store_row rfl 56 (.tmp 6) (.tmp 21) rfl (w.heap.size + 1) (matA m) rfl rfl 56 _ (heap_alloc2_new _ _ _) (rmatInfo m) (by rw [matA_size]; rfl) (matA_one _) ?_))
  refine bodyPost_ret (results_row_tmp rfl _ _ (w.heap.size + 1) 56 (matA m) (0, 0) _ _ (.bool false) rfl rfl (setRow_heap _ _ _ _ _ _ (heap_alloc2_new _ _ _)) Tryz.underlying56 (rmatInfo _)) rfl ⟨rfl, ?_⟩
  exact setRow_below (((Below.refl _ _).alloc (Nat.le_refl _) _).alloc (by simp) _) (by omega)
theorem rsub_key (x : Nat) : (x : Int) - (x : Int) % 4294967296 = ((x - x % 4294967296 : Nat) : Int) := by omega
end Go.Proofs.YtaonepbongbhoaaGreat
namespace Go.Proofs.YtaonepbongbhoaaGreat
open Go.RowKit
/-- all edges the other way. -/
def turn (m : Mm.Gr) : Mm.Gr := fun j => insTo m j 32
theorem insTo_32 {m : Mm.Gr} {j k : Nat} (hk : k ≤ 64) : insTo m j k < pw k := by
  have h : ∀ i, (insTo m j k).testBit i = true → i < k := fun i hi => by
    unfold insTo at hi
    rw [Mm.mk_test _ _ _ hk] at hi
    simp at hi
    exact hi.1
  exact Nat.lt_pow_two_of_testBit _ fun i hi => by
    cases hb : (insTo m j k).testBit i
    · rfl
    · have := h i hb; omega
theorem turn_lt (m : Mm.Gr) (j : Nat) : turn m j < 4294967296 := insTo_32 (by decide)
theorem turn_ok (m : Mm.Gr) : Mm.Ok (turn m) := fun i _ => by have := turn_lt m i; omega
theorem turn_E (m : Mm.Gr) (i j : Nat) : Mm.E (turn m) i j ↔ Mm.E m j i := by
  unfold Mm.E turn insTo
  rw [Mm.mk_test _ _ _ (by decide)]
  simp
  constructor
  · rintro ⟨h1, h2, h3⟩; exact ⟨h2, h1, h3⟩
  · rintro ⟨h1, h2, h3⟩; exact ⟨h2, h1, h3⟩
theorem turn_outs (m : Mm.Gr) (i : Nat) : Mm.outs (turn m) i = Mm.ins m i := by
  apply Sm.ext; intro j
  rw [Bool.eq_iff_iff, Mm.outs_test, Mm.ins_test, turn_E]
/-- the first k columns, and of the next one those of the first b rows. -/
def turnTo (m : Mm.Gr) (k b : Nat) : Mm.Gr := fun j => if j < b then insTo m j (k + 1) else insTo m j k
theorem turnTo_next (m : Mm.Gr) (k j : Nat) (h : j < 32) : turnTo m k 32 j = turnTo m (k + 1) 0 j := by unfold turnTo; rw [if_pos h, if_neg (by omega)]
theorem turnTo_all (m : Mm.Gr) (j : Nat) : turnTo m 32 0 j = turn m j := by unfold turnTo turn; rw [if_neg (by omega)]
theorem turnTo_zero (m : Mm.Gr) (j : Nat) : zeroM j = turnTo m 0 0 j := by unfold turnTo zeroM insTo; rw [if_neg (by omega)]; rfl
theorem turnTo_no {m : Mm.Gr} {k b : Nat} (h : (m k).testBit b = false) (j : Nat) : turnTo m k b j = turnTo m k (b + 1) j := by
  unfold turnTo
  by_cases hj : j = b
  · subst hj
    rw [if_neg (by omega), if_pos (by omega)]
    exact insTo_no h
  · by_cases h2 : j < b
    · rw [if_pos h2, if_pos (by omega)]
    · rw [if_neg h2, if_neg (by omega)]
theorem turnTo_yes {m : Mm.Gr} {k b : Nat} (hk : k < 32) (h : (m k).testBit b = true) (j : Nat) : (if j = b then insTo m b k + pw k else turnTo m k b j) = turnTo m k (b + 1) j := by
  unfold turnTo
  by_cases hj : j = b
  · subst hj
    rw [if_pos rfl, if_pos (by omega), ← insTo_yes h]
    refine (add_not (by omega) ?_).symm
    unfold insTo
    rw [Mm.mk_test _ _ _ (by omega)]
    simp
  · by_cases h2 : j < b
    · rw [if_neg hj, if_pos h2, if_pos (by omega)]
    · rw [if_neg hj, if_neg h2, if_neg (by omega)]
theorem turn_sum {m : Mm.Gr} {k b : Nat} (hk : k < 32) : insTo m b k + pw k < 18446744073709551616 := by
  have h1 := insTo_32 (m := m) (j := b) (k := k) (by omega)
  have h2 : pw k * 2 = pw (k + 1) := (Nat.pow_succ ..).symm
  have h3 : pw (k + 1) ≤ pw 32 := Nat.pow_le_pow_right (by decide) (by omega)
  have h4 : pw 32 = 4294967296 := rfl
  omega
theorem turnTo_at (m : Mm.Gr) (k b : Nat) : turnTo m k b b = insTo m b k := by unfold turnTo; rw [if_neg (by omega)]
/-- a block holds whether each number is in x. -/
def BitsAt (w : World) (g x : Nat) : Prop := w.heap[g]? = some (.cells (bitArr x 64) 90 (0, 0))
theorem BitsAt.lt {w : World} {g x : Nat} (h : BitsAt w g x) : g < w.heap.size := (Array.getElem?_eq_some_iff.1 h).1
theorem BitsAt.below {w w' : World} {g x : Nat} (h : BitsAt w g x) (hb : Below w.heap.size w w') : BitsAt w' g x := (hb.block g h.lt).trans h
theorem BitsAt.alloc {w : World} {g x : Nat} (h : BitsAt w g x) (o : Obj) : BitsAt (w.alloc o) g x := (Below.heap_alloc w o g h.lt).trans h
theorem BitsAt.setCell {w : World} {g x : Nat} (h : BitsAt w g x) (a : Addr) (v : Value) (hk : g ≠ a.block) : BitsAt (w.setCell a v) g x := (Below.heap_setCell w a v g hk).trans h
theorem BitsAt.cell {w : World} {g x : Nat} (h : BitsAt w g x) (i : Nat) (hi : i < 64) : w.cell? ⟨g, i, none⟩ = some (.bool (x.testBit i)) := by
  rw [cell_of_row _ _ _ _ _ _ h, bitArr_get x 64 i hi, decide_eq_true hi, Bool.true_and]
theorem BitsAt.frozen {w : World} {g x : Nat} (h : BitsAt w g x) (i : Nat) : w.frozen? ⟨g, i, none⟩ = false := frozen_of_row h
theorem bitsAt_new (w : World) (x : Nat) : BitsAt (w.alloc (.cells (bitArr x 64) 90)) w.heap.size x := heap_alloc_new w _
theorem bitArr_set {x y k : Nat} {b : Bool} (h : ∀ j, j < 64 → y.testBit j = if j = k then b else x.testBit j) : (bitArr x 64).setIfInBounds k (.bool b) = bitArr y 64 := by
  apply Array.ext_getElem?
  intro i
  by_cases hi : i < 64
  · rw [Array.getElem?_setIfInBounds, bitArr_get y 64 i hi, bitArr_get x 64 i hi, h i hi]
    by_cases e : k = i
    · subst e
      simp [bitArr_size, hi]
    · have : ¬ i = k := fun q => e q.symm
      simp [e, this]
  · rw [Array.getElem?_eq_none (by simp [bitArr_size]; omega), Array.getElem?_eq_none (by rw [bitArr_size]; omega)]
theorem bitsAt_cell {w : World} {g x y k : Nat} {b : Bool} (h : BitsAt w g x) (hy : ∀ j, j < 64 → y.testBit j = if j = k then b else x.testBit j) : BitsAt (w.setCell ⟨g, k, none⟩ (.bool b)) g y := by
  unfold BitsAt
  rw [heap_set h, bitArr_set hy]
theorem boolInfo (x : Nat) : (Tryz.prog.info? 90).map (·.size) = some (bitArr x 64).size := by rw [bitArr_size]; exact boolarr_info
structure TurnSt (m : Mm.Gr) (w : World) (t : Mm.Gr) (wr : World) : Prop where
  inn : MatAt wr w.heap.size m 56
  res : MatAt wr (w.heap.size + 1) zeroM 56
  out : MatAt wr (w.heap.size + 2) t 56
  bel : Below w.heap.size w wr
theorem TurnSt.below {m : Mm.Gr} {w W W' : World} {t : Mm.Gr} (h : TurnSt m w t W) (hb : Below W.heap.size W W') : TurnSt m w t W' :=
  ⟨h.inn.below hb, h.res.below hb, h.out.below hb, h.bel.trans (hb.mono h.bel.size)⟩
theorem TurnSt.alloc {m : Mm.Gr} {w W : World} {t : Mm.Gr} (h : TurnSt m w t W) (o : Obj) : TurnSt m w t (W.alloc o) := h.below ((Below.refl _ _).alloc (Nat.le_refl _) _)
theorem TurnSt.ext {m : Mm.Gr} {w W : World} {t u : Mm.Gr} (h : TurnSt m w t W) (e : ∀ i, i < 32 → t i = u i) : TurnSt m w u W := ⟨h.inn, h.res, h.out.ext e, h.bel⟩
theorem TurnSt.set {m : Mm.Gr} {w W : World} {t : Mm.Gr} (h : TurnSt m w t W) (k v : Nat) : TurnSt m w (fun i => if i = k then v else t i) (W.setCell ⟨w.heap.size + 2, k, none⟩ (.int .u64 (v : Nat))) :=
  ⟨h.inn.setCell _ _ (by simp), h.res.setCell _ _ (by simp), matAt_cell h.out, h.bel.setCell (by simp) _⟩
def TurnRel (m : Mm.Gr) (w : World) (p i : Value) (wr : World) : Prop :=
  ∃ k : Nat, k ≤ 32 ∧ i = .int .i64 k ∧ p = .int .u64 (pw k : Nat) ∧ TurnSt m w (turnTo m k 0) wr
def TurnIn (m : Mm.Gr) (w : World) (k g : Nat) (i : Value) (wr : World) : Prop :=
  ∃ b : Nat, b ≤ 32 ∧ i = .int .i64 b ∧ BitsAt wr g (m k) ∧ TurnSt m w (turnTo m k b) wr
set_option maxHeartbeats 2000000 in
set_option maxRecDepth 100000 in
theorem turn_any (m : Mm.Gr) (w : World) (hm : Mm.Ok m) :
    Calls Tryz.prog 52 #[.agg (matA m)] w fun e w' => e = .returned (.agg (matA (turn m))) ∧ Below w.heap.size w w' := by
  go_enter Tryz.func52, Tryz.ntmps52
  go_wp2
  go_loopw [4, 5] (TurnRel m w) (fun _ i _ => 32 - (intOf i).toNat)
  case atStart =>
    refine ⟨0, by omega, rfl, rfl, ?_, ?_, ?_, (((Below.refl _ _).alloc (Nat.le_refl _) _).alloc (by simp) _).alloc (by simp; omega) _⟩
    · exact ((matAt_new w m 56).alloc _).alloc _
    · refine MatAt.alloc ?_ _
      have := zero_lit (w.alloc (.cells (matA m) 56)) 56
      have h2 : MatAt ((w.alloc (.cells (matA m) 56)).alloc (.cells (Array.replicate 32 (Value.int .u64 0)) 56)) (w.heap.size + 1) zeroM 56 := by simpa using this
      exact h2
    · have := zero_lit ((w.alloc (.cells (matA m) 56)).alloc (.cells (Array.replicate 32 (Value.int .u64 0)) 56)) 56
      have h2 : MatAt (((w.alloc (.cells (matA m) 56)).alloc (.cells (Array.replicate 32 (Value.int .u64 0)) 56)).alloc (.cells (Array.replicate 32 (Value.int .u64 0)) 56)) (w.heap.size + 2) zeroM 56 := by simpa using this
      exact h2.ext fun i _ => turnTo_zero m i
  case round =>
    obtain ⟨k, hk, rfl, rfl, hS⟩ := hrel
    have HS := Lib.hid hS
    by_cases hlt : k < 32
    · have hc := hS.inn.cell k hlt
      have hmk := hm k hlt
      clear hS
      go_wp2_with fail
      refine (bits_any _ _ hmk).mono ?_
      rintro e w1 ⟨rfl, hb1⟩
      have HS1 := Lib.hid ((HS.out.below hb1).alloc (.cells (bitArr (m k) 64) 90))
      have HB1 := Lib.hid (bitsAt_new w1 (m k))
      clear hb1 hc HS
      go_wp2_with (refine wpList_store_row rfl 90 (.tmp 6) (.tmp 15) rfl w1.heap.size (bitArr (m k) 64) rfl rfl 90 _ (heap_alloc_new _ _) (boolInfo _) (by rw [bitArr_size]; rfl) (bitArr_one _ _) ?_; rw [World.setRow_alloc_new])
      go_loopw [7] (TurnIn m w k w1.heap.size) (fun i _ => 32 - (intOf i).toNat)
      case atStart => exact ⟨0, by omega, rfl, HB1.out, HS1.out⟩
      case round =>
        obtain ⟨b, hb, rfl, hB, hS⟩ := hrel
        have HSr := Lib.hid hS
        have HBr := Lib.hid hB
        by_cases hbl : b < 32
        · have hc := hB.cell b (by omega)
          have hne : w1.heap.size ≠ w.heap.size + 2 := by
            intro e
            have h1 := hB
            have h2 := hS.out
            unfold BitsAt at h1
            unfold MatAt at h2
            rw [e, h2] at h1
            simp at h1
          cases ht : (m k).testBit b
          · rw [ht] at hc
            have HN := Lib.hid (turnTo_no ht)
            clear ht hS hB hne
            go_wp2
            exact ⟨⟨b + 1, by omega, by go_num, HBr.out, HSr.out.ext fun i _ => HN.out i⟩, by simp [intOf]; omega⟩
          · rw [ht] at hc
            have hc2 := hS.out.cell b hbl
            rw [turnTo_at] at hc2
            have hf2 := hS.out.frozen b
            have hsum := turn_sum (m := m) (b := b) hlt
            have HY := Lib.hid (turnTo_yes hlt ht)
            have HW := Lib.hid (show ((insTo m b k : Nat) : Int) + ((pw k : Nat) : Int) = ((insTo m b k + pw k : Nat) : Int) by omega)
            clear ht hS hB
            go_wp2
            rw [HW.out]
            exact ⟨⟨b + 1, by omega, by go_num, HBr.out.setCell _ _ hne, (HSr.out.set b _).ext fun i _ => HY.out i⟩, by simp [intOf]; omega⟩
        · obtain rfl : b = 32 := by omega
          clear hS hB
          have hps : IntKind.u64.wrap (((pw k : Nat) : Int) * 2) = ((pw (k + 1) : Nat) : Int) := pow_step (by omega)
          go_wp2
          exact ⟨⟨k + 1, by omega, by go_num, rfl, HSr.out.ext fun i hi => turnTo_next m k i hi⟩, by simp [intOf]; omega⟩
    · obtain rfl : k = 32 := by omega
      clear hS
      have HT := Lib.hid (HS.out.ext fun i _ => turnTo_all m i)
      go_wp2_with (first
        | (refine wpList_load_row rfl 56 (.tmp 3) rfl (w.heap.size + 2) rfl 56 (matA (turn m)) (0, 0) _ HT.out.out Tryz.underlying56 rfl (rmatInfo _) ?_)
        | (refine wpList_store_row rfl 56 (.tmp 2) (.tmp 32) rfl (w.heap.size + 1) (matA (turn m)) rfl rfl 56 _ HT.out.res (rmatInfo _) (by rw [matA_size, matA_size]) (matA_one _) ?_))
      refine bodyPost_ret (results_cell_row rfl _ _ (w.heap.size + 1) 56 (matA (turn m)) (0, 0) _ rfl (setRow_heap _ _ _ _ _ _ HT.out.res) Tryz.underlying56 rfl (rmatInfo _)) rfl ⟨rfl, ?_⟩
      exact setRow_below HT.out.bel (by omega)
/- Sum -/
theorem hv_step (x k : Nat) : hv x k = 2 * hv x (k + 1) + (if x.testBit k then 1 else 0) := by
  have h1 : hv x (k + 1) = hv x k / 2 := by
    unfold hv pw
    rw [Nat.pow_succ, Nat.div_div_eq_div_mul]
  have h2 := hv_test x k
  rw [h1]
  by_cases h : x.testBit k = true
  · rw [h] at h2 ⊢
    simp at h2
    simp
    omega
  · have hf : x.testBit k = false := by simpa using h
    rw [hf] at h2 ⊢
    simp at h2
    simp
    omega
def SumRel (x : Nat) (s i : Value) : Prop := ∃ k : Nat, k ≤ 64 ∧ i = .int .i64 ((k : Int) - 1) ∧ s = .int .u64 (hv x k : Nat)
theorem hv_64 {x : Nat} (h : x < 18446744073709551616) : hv x 64 = 0 := by
  unfold hv pw
  exact Nat.div_eq_of_lt (by simpa using h)
set_option maxHeartbeats 1000000 in
set_option maxRecDepth 100000 in
theorem sum_any (x : Nat) (w : World) (hx : x < 18446744073709551616) :
    Calls Tryz.prog 79 #[.agg (bitArr x 64)] w fun e w' => e = .returned (.int .u64 (x : Nat)) ∧ Below w.heap.size w w' := by
  go_enter Tryz.func79, Tryz.ntmps79
  go_wp2
  go_loop [3, 4] (SumRel x) (fun _ i => (intOf i + 1).toNat)
  case atStart => exact ⟨64, by omega, rfl, by rw [hv_64 hx]; rfl⟩
  case round =>
    obtain ⟨k, hk, rfl, rfl⟩ := hrel
    by_cases h0 : k = 0
    · subst h0
      have HZ := Lib.hid (hv_zero x)
      go_wp2
      go_ret
      rw [HZ.out]
      exact ⟨rfl, (Below.refl _ _).alloc (Nat.le_refl _) _⟩
    · obtain ⟨j, rfl⟩ : ∃ j, k = j + 1 := ⟨k - 1, by omega⟩
      have e1 : ((j + 1 : Nat) : Int) - 1 = (j : Int) := by omega
      rw [e1]
      have hst := hv_step x j
      have hlt := hv_lt j hx
      have hg := bitArr_get x 64 j (by omega)
      rw [decide_eq_true (by omega : j < 64), Bool.true_and] at hg
      cases ht : x.testBit j
      · rw [ht] at hg hst
        have hs2 : 2 * hv x (j + 1) = hv x j := by simpa using hst.symm
        have HK := Lib.hid (show IntKind.u64.wrap (((hv x (j + 1) : Nat) : Int) * 2) = ((hv x j : Nat) : Int) by rw [IntKind.wrap_u64]; omega)
        clear ht hst hs2
        go_wp2_with (simp only [HK.out])
        go_round
        case rel => exact ⟨j, by omega, by go_num, rfl⟩
        case measure => simp [intOf]
      · rw [ht] at hg hst
        have hs2 : 2 * hv x (j + 1) + 1 = hv x j := by simpa using hst.symm
        have HK := Lib.hid (show IntKind.u64.wrap (IntKind.u64.wrap (((hv x (j + 1) : Nat) : Int) * 2) + 1) = ((hv x j : Nat) : Int) by rw [IntKind.wrap_u64, IntKind.wrap_u64]; omega)
        clear ht hst hs2
        go_wp2
        rw [HK.out]
        exact ⟨⟨j, by omega, rfl, rfl⟩, by simp [intOf]⟩
end Go.Proofs.YtaonepbongbhoaaGreat
namespace Go.Proofs.YtaonepbongbhoaaGreat
open Go.RowKit
namespace Mm
/-- all that came in, and all whose edges were looked at. -/
structure InvR (nx : Nat → Nat) (x R X H : Nat) : Prop where
  xlt : X < 4294967296
  sub : ∀ j, H.testBit j = true → X.testBit j = true
  start : ∀ j, x.testBit j = true → X.testBit j = true
  sound : ∀ j, X.testBit j = true → R.testBit j = true
  step : ∀ i j, H.testBit i = true → (nx i).testBit j = true → X.testBit j = true
theorem InvR.hlt {nx : Nat → Nat} {x R X H : Nat} (h : InvR nx x R X H) : H < 4294967296 := lt32 fun j hj => test32 h.xlt (h.sub j hj)
theorem invR_first {nx : Nat → Nat} {x R : Nat} (h : Least nx x R) (hx : x < 4294967296) : InvR nx x R x 0 :=
  ⟨hx, fun j hj => by simp at hj, fun j hj => hj, h.start, fun i j hi => by simp at hi⟩
theorem invR_last {nx : Nat → Nat} {x R X : Nat} (h : Least nx x R) (hi : InvR nx x R X X) : X = R := by
  apply Sm.ext; intro j
  rw [Bool.eq_iff_iff]
  exact ⟨hi.sound j, h.least X hi.start hi.step j⟩
theorem invR_next {nx : Nat → Nat} {x R X H b : Nat} (h : Least nx x R) (hn : ∀ i, nx i < 4294967296) (hi : InvR nx x R X H) (hb : X.testBit b = true) (hh : H.testBit b = false) :
    InvR nx x R (X ||| nx b) (Sm.add H (b : Int)) ∧ H < Sm.add H (b : Int) := by
  have hb32 := test32 hi.xlt hb
  refine ⟨⟨or_lt32 hi.xlt (hn b), fun j hj => ?_, fun j hj => ?_, fun j hj => ?_, fun i j h1 h2 => ?_⟩, ?_⟩
  · rw [add_same hb32] at hj
    rw [Nat.testBit_or]
    simp only [Bool.or_eq_true, decide_eq_true_eq] at hj ⊢
    rcases hj with hj | rfl
    · exact .inl (hi.sub j hj)
    · exact .inl hb
  · rw [Nat.testBit_or, hi.start j hj]; rfl
  · rw [Nat.testBit_or, Bool.or_eq_true] at hj
    rcases hj with hj | hj
    · exact hi.sound j hj
    · exact h.step b j (hi.sound b hb) hj
  · rw [add_same hb32] at h1
    rw [Nat.testBit_or, Bool.or_eq_true]
    simp only [Bool.or_eq_true, decide_eq_true_eq] at h1
    rcases h1 with h1 | rfl
    · exact .inl (hi.step i j h1 h2)
    · exact .inr h2
  · apply Nat.lt_of_le_of_ne (show H ≤ H ||| Sm.bit (b : Int) from Nat.left_le_or)
    intro he
    have h4 : H.testBit b = (Sm.add H (b : Int)).testBit b := congrArg (fun n => n.testBit b) he
    rw [add_same hb32, hh] at h4
    simp at h4
end Mm
/-- x, and of y what is below k. -/
def orTo (x y k : Nat) : Nat := x ||| (y % pw k)
theorem orTo_zero (x y : Nat) : orTo x y 0 = x := by
  unfold orTo pw
  have : y % 2 ^ 0 = 0 := by rw [Nat.pow_zero, Nat.mod_one]
  rw [this, Nat.or_zero]
theorem orTo_all {x y : Nat} (h : y < 4294967296) : orTo x y 32 = x ||| y := by
  unfold orTo pw
  rw [Nat.mod_eq_of_lt (by simpa using h)]
theorem orTo_test (x y k j : Nat) : (orTo x y k).testBit j = (x.testBit j || (decide (j < k) && y.testBit j)) := by
  unfold orTo pw
  rw [Nat.testBit_or, Nat.testBit_mod_two_pow]
theorem orTo_at (x y k : Nat) : (orTo x y k).testBit k = x.testBit k := by rw [orTo_test]; simp
theorem orTo_step (x y k j : Nat) : (orTo x y (k + 1)).testBit j = if j = k then (x.testBit k || y.testBit k) else (orTo x y k).testBit j := by
  rw [orTo_test, orTo_test]
  by_cases h : j = k
  · subst h; simp
  · rw [if_neg h]
    congr 2
    rw [decide_eq_decide]; omega
theorem bitArr_none : bitArr 0 64 = Array.replicate 64 (Value.bool false) := by
  apply Array.ext_getElem?
  intro i
  by_cases h : i < 64
  · rw [bitArr_get 0 64 i h]; simp [h]
  · rw [Array.getElem?_eq_none (by rw [bitArr_size]; omega), Array.getElem?_eq_none (by simp; omega)]
theorem bitsAt_none (w : World) : BitsAt (w.alloc (.cells (Array.replicate 64 (Value.bool false)) 90)) w.heap.size 0 := by
  unfold BitsAt; rw [bitArr_none]; exact heap_alloc_new _ _
structure RSt (m : Mm.Gr) (w : World) (g X H : Nat) (wr : World) : Prop where
  inn : MatAt wr w.heap.size m 56
  has : BitsAt wr g X
  had : BitsAt wr (g + 1) H
  bel : Below w.heap.size w wr
theorem RSt.below {m : Mm.Gr} {w W W' : World} {g X H : Nat} (h : RSt m w g X H W) (hb : Below W.heap.size W W') : RSt m w g X H W' :=
  ⟨h.inn.below hb, h.has.below hb, h.had.below hb, h.bel.trans (hb.mono h.bel.size)⟩
theorem RSt.alloc {m : Mm.Gr} {w W : World} {g X H : Nat} (h : RSt m w g X H W) (o : Obj) : RSt m w g X H (W.alloc o) := h.below ((Below.refl _ _).alloc (Nat.le_refl _) _)
theorem RSt.setHad {m : Mm.Gr} {w W : World} {g X H K k : Nat} {b : Bool} (h : RSt m w g X H W) (hg : w.heap.size < g) (hy : ∀ j, j < 64 → K.testBit j = if j = k then b else H.testBit j) : RSt m w g X K (W.setCell ⟨g + 1, k, none⟩ (.bool b)) :=
  ⟨h.inn.setCell _ _ (by simp; omega), h.has.setCell _ _ (by simp), bitsAt_cell h.had hy, h.bel.setCell (by simp; omega) _⟩
theorem RSt.setHas {m : Mm.Gr} {w W : World} {g X H K k : Nat} {b : Bool} (h : RSt m w g X H W) (hg : w.heap.size < g) (hy : ∀ j, j < 64 → K.testBit j = if j = k then b else X.testBit j) : RSt m w g K H (W.setCell ⟨g, k, none⟩ (.bool b)) :=
  ⟨h.inn.setCell _ _ (by simp; omega), bitsAt_cell h.has hy, h.had.setCell _ _ (by simp), h.bel.setCell (by simp; omega) _⟩
def RRel (m : Mm.Gr) (x R g : Nat) (w : World) (n : Nat) (more : Value) (wr : World) : Prop :=
  ∃ X H b, more = .bool b ∧ Mm.InvR (Mm.outs m) x R X H ∧ RSt m w g X H wr ∧ (b = false → X = H) ∧ 2 * (4294967296 - H) + (if b then 1 else 0) ≤ n
def MRel (m : Mm.Gr) (x R g H0 : Nat) (w : World) (more i : Value) (wr : World) : Prop :=
  ∃ X H b k, more = .bool b ∧ i = .int .i64 (k : Nat) ∧ k ≤ 32 ∧ Mm.InvR (Mm.outs m) x R X H ∧ RSt m w g X H wr ∧ H0 ≤ H ∧ (b = true → H0 < H) ∧ (b = false → ∀ j, j < k → X.testBit j = true → H.testBit j = true)
def CRel (m : Mm.Gr) (g gO X Y H : Nat) (w : World) (i : Value) (wr : World) : Prop :=
  ∃ k, i = .int .i64 (k : Nat) ∧ k ≤ 32 ∧ RSt m w g (orTo X Y k) H wr ∧ BitsAt wr gO Y
theorem add_bits {H b : Nat} (hb : b < 32) (j : Nat) (_ : j < 64) : (Sm.add H (b : Int)).testBit j = if j = b then true else H.testBit j := by
  rw [Mm.add_same hb]
  by_cases h : j = b
  · simp [h]
  · simp [h]
theorem mid_end {X H : Nat} (hX : X < 4294967296) (h1 : ∀ j, H.testBit j = true → X.testBit j = true) (h2 : ∀ j, j < 32 → X.testBit j = true → H.testBit j = true) : X = H := by
  apply Sm.ext; intro j
  rw [Bool.eq_iff_iff]
  exact ⟨fun h => h2 j (Mm.test32 hX h) h, h1 j⟩
set_option maxHeartbeats 4000000 in
set_option maxRecDepth 100000 in
theorem rreach_core (m : Mm.Gr) (a : Int) (x R : Nat) (w : World) (hm : Mm.Ok m) (hx : x < 4294967296) (hR : Mm.Least (Mm.outs m) x R)
    (hO : ∀ W, Calls Tryz.prog 78 #[.agg (matA m), .int .i64 a] W fun e W' => e = .returned (.int .u64 (x : Nat)) ∧ Below W.heap.size W W') :
    Calls Tryz.prog 51 #[.agg (matA m), .int .i64 a] w fun e w' => e = .returned (.int .u64 (R : Nat)) ∧ Below w.heap.size w w' := by
  have HR := Lib.hid hR
  have HOut := Lib.hid hO
  have hx64 : x < 18446744073709551616 := by omega
  clear hR hO
  go_enter Tryz.func51, Tryz.ntmps51
  go_wp2_with (refine wpList_load_row rfl 56 (.tmp 2) rfl w.heap.size rfl 56 (matA m) (0, 0) _ (matAt_new _ _ _) Tryz.underlying56 rfl (rmatInfo m) ?_)
  refine (HOut.out _).mono ?_
  rintro e w1 ⟨rfl, hb1⟩
  go_wp2_with fail
  refine (bits_any _ _ hx64).mono ?_
  rintro e w2 ⟨rfl, hb2⟩
  have hs1 := hb1.size
  have hs2 := hb2.size
  have hg : w.heap.size < w2.heap.size := by simp at hs1; omega
  have HS := Lib.hid (show RSt m w w2.heap.size x 0 ((w2.alloc (.cells (bitArr x 64) 90)).alloc (.cells (Array.replicate 64 (Value.bool false)) 90)) from by
    have h0 : Below w.heap.size w (w.alloc (.cells (matA m) 56)) := (Below.refl _ _).alloc (Nat.le_refl _) _
    have h1 := h0.trans (hb1.mono h0.size)
    have h2 := h1.trans (hb2.mono h1.size)
    refine ⟨((((matAt_new w m 56).below hb1).below hb2).alloc _).alloc _, (bitsAt_new _ _).alloc _, ?_, (h2.alloc h2.size _).alloc (by have := h2.size; simp; omega) _⟩
    have := bitsAt_none (w2.alloc (.cells (bitArr x 64) 90))
    simpa using this)
  clear hb1 hb2 hs1 hs2
  go_wp2_with (refine wpList_store_row rfl 90 (.tmp 5) (.tmp 14) rfl w2.heap.size (bitArr x 64) rfl rfl 90 _ (heap_alloc_new _ _) (boolInfo _) (by rw [bitArr_size]; rfl) (bitArr_one _ _) ?_; rw [World.setRow_alloc_new])
  generalize hG : w2.heap.size = g at *
  have HG := Lib.hid hG
  clear hG
  go_loopg [7] 8589934593 (RRel m x R g w)
  case atStart => exact ⟨x, 0, true, rfl, Mm.invR_first HR.out hx, HS.out, (fun h => by cases h), by decide⟩
  case round =>
    obtain ⟨X, H, b, rfl, hi, hS, hbH, hn⟩ := hrel
    have HI := Lib.hid hi
    have HSr := Lib.hid hS
    have HBH := Lib.hid hbH
    have HN := Lib.hid hn
    have hX := hi.xlt
    have hH := hi.hlt
    have hX64 : X < 18446744073709551616 := by omega
    clear hi hS hbH hn HS
    cases b
    · have HE := Lib.hid (show X = R from by
        have e := HBH.out rfl
        exact Mm.invR_last HR.out (by have h := HI.out; rw [← e] at h; exact h))
      go_wp2_with (first
        | (refine wpList_load_row rfl 90 (.tmp 5) rfl g rfl 90 (bitArr X 64) (0, 0) _ HSr.out.has Tryz.underlying90 rfl (boolInfo _) ?_)
        | (go_at_call 79; refine (sum_any X _ hX64).mono ?_; rintro e w3 ⟨rfl, hb3⟩))
      go_ret
      rw [HE.out]
      exact ⟨rfl, (HSr.out.below hb3).bel⟩
    · go_wp2
      go_loopw [7, 8] (MRel m x R g H w) (fun _ i _ => 32 - (intOf i).toNat)
      case atStart => exact ⟨X, H, false, 0, rfl, rfl, by omega, HI.out, HSr.out, Nat.le_refl _, (fun h => by cases h), fun _ j hj => absurd hj (by omega)⟩
      case round =>
        obtain ⟨X', H', b', k, rfl, rfl, hk, hi, hS, hle, hb1, hb2⟩ := hrel
        have HI' := Lib.hid hi
        have HS' := Lib.hid hS
        have HLE := Lib.hid hle
        have HB1 := Lib.hid hb1
        have HB2 := Lib.hid hb2
        have hX' := hi.xlt
        clear hi hle hb1 hb2
        by_cases hlt : k < 32
        · have hc1 := hS.has.cell k (by omega)
          have hc2 := hS.had.cell k (by omega)
          have hf2 := hS.had.frozen k
          clear hS
          cases ht : X'.testBit k
          · rw [ht] at hc1
            have HT := Lib.hid ht
            clear ht
            go_wp2
            refine ⟨⟨X', H', b', k + 1, rfl, by go_num, by omega, HI'.out, HS'.out, HLE.out, HB1.out, fun hb j hj hx => ?_⟩, by simp [intOf]; omega⟩
            by_cases hjk : j = k
            · subst hjk; rw [HT.out] at hx; cases hx
            · exact HB2.out hb j (by omega) hx
          · rw [ht] at hc1
            have HT := Lib.hid ht
            clear ht
            cases hh : H'.testBit k
            · rw [hh] at hc2
              have HH := Lib.hid hh
              clear hh
              obtain ⟨hin, hgt⟩ := Mm.invR_next HR.out (Mm.outs_lt m) HI'.out HT.out HH.out
              have HIN := Lib.hid hin
              have HGT := Lib.hid hgt
              have HSa := Lib.hid (HS'.out.setHad (k := k) (b := true) hg (add_bits hlt))
              clear hin hgt
              have ho32 := Mm.outs_lt m k
              have ho64 : Mm.outs m k < 18446744073709551616 := by omega
              go_wp2_with (refine wpList_load_row rfl 56 (.tmp 2) rfl w.heap.size rfl 56 (matA m) (0, 0) _ HSa.out.inn Tryz.underlying56 rfl (rmatInfo m) ?_)
              refine (routs_in m k _ hm hlt).mono ?_
              rintro e w3 ⟨rfl, hb3⟩
              go_wp2_with fail
              refine (bits_any _ _ ho64).mono ?_
              rintro e w4 ⟨rfl, hb4⟩
              have hS4 := (HSa.out.below hb3).below hb4
              have hgO : w4.heap.size ≠ g := by have := hS4.has.lt; omega
              have HS4 := Lib.hid (hS4.alloc (.cells (bitArr (Mm.outs m k) 64) 90))
              have HBO := Lib.hid (bitsAt_new w4 (Mm.outs m k))
              clear hS4 hb3 hb4 hc1 hc2 hf2 HSa HS'
              go_wp2_with (refine wpList_store_row rfl 90 (.tmp 9) (.tmp 34) rfl w4.heap.size (bitArr (Mm.outs m k) 64) rfl rfl 90 _ (heap_alloc_new _ _) (boolInfo _) (by rw [bitArr_size]; rfl) (bitArr_one _ _) ?_; rw [World.setRow_alloc_new])
              go_loopw [10] (CRel m g w4.heap.size X' (Mm.outs m k) (Sm.add H' (k : Int)) w) (fun i _ => 32 - (intOf i).toNat)
              case atStart => exact ⟨0, rfl, by omega, by rw [orTo_zero]; exact HS4.out, HBO.out⟩
              case round =>
                obtain ⟨c, rfl, hc, hS, hO⟩ := hrel
                have HSc := Lib.hid hS
                have HOc := Lib.hid hO
                by_cases hcl : c < 32
                · have d1 := hS.has.cell c (by omega)
                  have d2 := hS.has.frozen c
                  have d3 := hO.cell c (by omega)
                  rw [orTo_at] at d1
                  clear hS hO
                  cases hx1 : X'.testBit c
                  · rw [hx1] at d1
                    cases hy1 : (Mm.outs m k).testBit c
                    · rw [hy1] at d3
                      have HST := Lib.hid (fun j (_ : j < 64) => by have := orTo_step X' (Mm.outs m k) c j; rw [hx1, hy1] at this; exact this)
                      clear hx1 hy1
                      go_wp2
                      exact ⟨⟨c + 1, by go_num, by omega, HSc.out.setHas hg HST.out, HOc.out.setCell _ _ (by simpa using hgO)⟩, by simp [intOf]; omega⟩
                    · rw [hy1] at d3
                      have HST := Lib.hid (fun j (_ : j < 64) => by have := orTo_step X' (Mm.outs m k) c j; rw [hx1, hy1] at this; exact this)
                      clear hx1 hy1
                      go_wp2
                      exact ⟨⟨c + 1, by go_num, by omega, HSc.out.setHas hg HST.out, HOc.out.setCell _ _ (by simpa using hgO)⟩, by simp [intOf]; omega⟩
                  · rw [hx1] at d1
                    have HST := Lib.hid (fun j (_ : j < 64) => by have := orTo_step X' (Mm.outs m k) c j; rw [hx1, Bool.true_or] at this; exact this)
                    clear hx1
                    go_wp2
                    exact ⟨⟨c + 1, by go_num, by omega, HSc.out.setHas hg HST.out, HOc.out.setCell _ _ (by simpa using hgO)⟩, by simp [intOf]; omega⟩
                · obtain rfl : c = 32 := by omega
                  clear hS hO
                  have HA := Lib.hid (show RSt m w g (X' ||| Mm.outs m k) (Sm.add H' (k : Int)) wr from by have h := HSc.out; rw [orTo_all ho32] at h; exact h)
                  go_wp2
                  refine ⟨⟨X' ||| Mm.outs m k, Sm.add H' (k : Int), true, k + 1, rfl, by go_num, by omega, HIN.out, HA.out, Nat.le_trans HLE.out (Nat.le_of_lt HGT.out), fun _ => Nat.lt_of_le_of_lt HLE.out HGT.out, fun h => by cases h⟩, by simp [intOf]; omega⟩
            · rw [hh] at hc2
              have HH := Lib.hid hh
              clear hh
              go_wp2
              refine ⟨⟨X', H', b', k + 1, rfl, by go_num, by omega, HI'.out, HS'.out, HLE.out, HB1.out, fun hb j hj hx => ?_⟩, by simp [intOf]; omega⟩
              by_cases hjk : j = k
              · subst hjk; exact HH.out
              · exact HB2.out hb j (by omega) hx
        · obtain rfl : k = 32 := by omega
          clear hS
          have HM := Lib.hid (show 2 * (4294967296 - H') + (if b' then 1 else 0) < gk ∧ (b' = false → X' = H') from by
            have h1 := HN.out
            have h2 := HI'.out.hlt
            refine ⟨?_, fun hb => mid_end hX' HI'.out.sub (HB2.out hb)⟩
            simp only [if_true] at h1
            cases b'
            · have := HLE.out
              simp; omega
            · have := HB1.out rfl
              simp; omega)
          go_wp2
          go_roundg (2 * (4294967296 - H') + (if b' then 1 else 0))
          case measure => exact HM.out.1
          case rel => exact ⟨X', H', b', rfl, HI'.out, HS'.out, HM.out.2, Nat.le_refl _⟩
theorem rreach_in (m : Mm.Gr) (a : Nat) (w : World) (hm : Mm.Ok m) (ha : a < 32) :
    Calls Tryz.prog 51 #[.agg (matA m), .int .i64 (a : Nat)] w fun e w' => e = .returned (.int .u64 (Mm.ways (Mm.E m) a : Nat)) ∧ Below w.heap.size w w' :=
  rreach_core m a _ _ w hm (Mm.outs_lt m a) (Mm.least_outs m a) (fun W => routs_in m a W hm ha)
theorem rreach_far (m : Mm.Gr) (a : Int) (w : World) (hm : Mm.Ok m) (ha : Far a) :
    Calls Tryz.prog 51 #[.agg (matA m), .int .i64 a] w fun e w' => e = .returned (.int .u64 0) ∧ Below w.heap.size w w' :=
  rreach_core m a 0 0 w hm (by decide) (Mm.least_zero _) (fun W => routs_far m a W ha)
def RFreeRel (m : Mm.Gr) (w : World) (i : Value) (wr : World) : Prop :=
  ∃ k : Nat, k ≤ 32 ∧ i = .int .i64 k ∧ (∀ j, j < k → ¬ Mm.W (Mm.E m) j j) ∧ MatAt wr w.heap.size m 56 ∧ Below w.heap.size w wr
theorem rhasN_val (x k : Nat) (b : Bool) (w : World) (hx : x < 18446744073709551616) (hk : k < 64) (h : x.testBit k = b) :
    Calls Tryz.prog 50 #[.int .u64 x, .int .i64 (k : Nat)] w fun e w' => e = .returned (.bool b) ∧ w = w' :=
  rhas_val x (k : Nat) b w hx (by omega) (by omega) (by rw [Sm.has_nat k hx, h])
set_option maxHeartbeats 1000000 in
set_option maxRecDepth 100000 in
theorem rfree_any (m : Mm.Gr) (w : World) (hm : Mm.Ok m) :
    Calls Tryz.prog 22 #[.agg (matA m)] w fun e w' => e = .returned (.bool (Mm.free m)) ∧ Below w.heap.size w w' := by
  go_enter Tryz.func22, Tryz.ntmps22
  go_wp2
  go_loopw [3] (RFreeRel m w) (fun i _ => 32 - (intOf i).toNat)
  case atStart => exact ⟨0, by omega, rfl, fun j hj => absurd hj (by omega), matAt_new _ _ _, (Below.refl _ _).alloc (Nat.le_refl _) _⟩
  case round =>
    obtain ⟨k, hk, rfl, hw, h0, hb⟩ := hrel
    have H0 := Lib.hid h0
    have HW := Lib.hid hw
    clear h0 hw
    by_cases hlt : k < 32
    · have hwl := Mm.ways_lt (Mm.E m) k
      cases ht : (Mm.ways (Mm.E m) k).testBit k
      · have HB := Lib.hid ht
        have HNW := Lib.hid (show ¬ Mm.W (Mm.E m) k k from fun h => by rw [(Mm.ways_test _ _ _).2 ⟨hlt, h⟩] at ht; cases ht)
        clear ht
        go_wp2_with (first
          | (refine wpList_load_row rfl 56 (.tmp 1) rfl w.heap.size rfl 56 (matA m) (0, 0) _ H0.out Tryz.underlying56 rfl (rmatInfo m) ?_)
          | (go_at_call 51; refine (rreach_in m k _ hm hlt).mono ?_; rintro e w1 ⟨rfl, hb1⟩)
          | (go_at_call 50; refine (rhasN_val _ _ _ _ hwl (by omega) HB.out).mono ?_; rintro e w' ⟨rfl, rfl⟩))
        refine ⟨⟨k + 1, by omega, by go_num, fun j hj => ?_, H0.out.below hb1, hb.trans (hb1.mono hb.size)⟩, by simp [intOf]; omega⟩
        by_cases hjk : j = k
        · subst hjk; exact HNW.out
        · exact HW.out j (by omega)
      · have HB := Lib.hid ht
        have HF := Lib.hid (free_no ht)
        clear ht
        go_wp2_with (first
          | (refine wpList_load_row rfl 56 (.tmp 1) rfl w.heap.size rfl 56 (matA m) (0, 0) _ H0.out Tryz.underlying56 rfl (rmatInfo m) ?_)
          | (go_at_call 51; refine (rreach_in m k _ hm hlt).mono ?_; rintro e w1 ⟨rfl, hb1⟩)
          | (go_at_call 50; refine (rhasN_val _ _ _ _ hwl (by omega) HB.out).mono ?_; rintro e w' ⟨rfl, rfl⟩))
        go_ret
        rw [HF.out]
        exact ⟨rfl, hb.trans (hb1.mono hb.size)⟩
    · obtain rfl : k = 32 := by omega
      have HF := Lib.hid (free_yes HW.out)
      go_wp2
      go_ret
      rw [HF.out]
      exact ⟨rfl, hb⟩
end Go.Proofs.YtaonepbongbhoaaGreat
