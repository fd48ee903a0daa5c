/-
  Contracts of the document's own answers for graphs: Node, Outs, Has, Put and Cut.
-/
import Derived.Test.YtcfdndppkpjleaaMatOps
namespace Go.Proofs.Ytcfdndppkpjleaa
open Go.RowKit
set_option maxHeartbeats 400000 in
theorem rnode_yes (a : Nat) (w : World) (h : a < 32) : Calls Try.prog 63 #[.int .i64 (a : Nat)] w fun e w' => e = .returned (.bool true) ∧ w = w' := by
  go_enter Try.func63, Try.ntmps63
  go_wp2
  go_ret
  refine ⟨ret_bool ?_, rfl⟩
  simp; omega
set_option maxHeartbeats 400000 in
theorem rnode_no (a : Int) (w : World) (h : Far a) : Calls Try.prog 63 #[.int .i64 a] w fun e w' => e = .returned (.bool false) ∧ w = w' := by
  obtain ⟨_, h⟩ := h
  by_cases hn : a < 0
  · have hd : decide (0 ≤ a) = false := by simp; omega
    go_enter Try.func63, Try.ntmps63
    go_wp2
    go_ret
    exact ⟨rfl, rfl⟩
  · have h0 : 0 ≤ a := by omega
    have hd : decide (a < 32) = false := by simp; omega
    go_enter Try.func63, Try.ntmps63
    go_wp2
    go_ret
    exact ⟨rfl, rfl⟩
theorem rwith_val (x k y : Nat) (w : World) (hx : x < 18446744073709551616) (hk : k < 64) (h : Sm.add x (k : Nat) = y) :
    Calls Try.prog 64 #[.int .u64 x, .int .i64 (k : Nat)] w fun e w' => e = .returned (.int .u64 (y : Nat)) ∧ w = w' := by
  have := rwith_any x (k : Nat) w hx (by omega) (by omega)
  rw [h] at this
  exact this
theorem edge_both {m : Mm.Gr} {a b : Nat} (hm : Mm.Ok m) (ha : a < 32) (hb : b < 32) : Sm.has (m a) (b : Nat) = edge m (a : Nat) (b : Nat) := by
  rw [Sm.has_nat b (hm a ha), ← edge_in, Sm.has_nat b (by have := Mm.outs_lt m a; omega)]
  rw [Bool.eq_iff_iff, Mm.outs_test]
  unfold Mm.E
  simp [ha, hb]
set_option maxHeartbeats 1000000 in
set_option maxRecDepth 100000 in
theorem rput_yes (m : Mm.Gr) (a b : Nat) (w : World) (hm : Mm.Ok m) (ha : a < 32) (hb : b < 32) (hab : a ≠ b) :
    Calls Try.prog 48 #[.agg (matA m), .int .i64 (a : Nat), .int .i64 (b : Nat)] w fun e w' => e = .returned (.tuple #[.agg (matA (Mm.put m a b)), .bool true]) ∧ Below w.heap.size w w' := by
  have hne : (((a : Nat) : Int) == ((b : Nat) : Int)) = false := by simp; omega
  have hg := matA_get m a ha
  have hma := hm a ha
  have HP := Lib.hid (matA_ext (put_eq (m := m) (a := a) (b := b)))
  have HS := Lib.hid (matA_set m a (Sm.add (m a) (b : Nat)))
  have HI := Lib.hid (rmatInfo m)
  go_enter Try.func48, Try.ntmps48
  go_wp2_with (first
    | (go_at_call 63; refine (rnode_yes _ _ (by assumption)).mono ?_; rintro e w' ⟨rfl, rfl⟩)
    | (go_at_call 64; refine (rwith_val _ _ _ _ hma (by omega) rfl).mono ?_; rintro e w' ⟨rfl, rfl⟩)
    | (refine wpList_load_row rfl 54 (.tmp 3) rfl w.heap.size rfl 54 _ (0, 0) _ (heap_alloc2_old _ _ _) Try.underlying54 rfl (by rw [Array.size_setIfInBounds]; exact HI.out) ?_)
    | (refine wpList_store_row rfl 54 (.tmp 6) (.tmp 29) rfl (w.heap.size + 1) _ rfl rfl 54 _ (heap_alloc2_new _ _ _) (by rw [Array.size_setIfInBounds]; exact HI.out) (by rw [Array.size_setIfInBounds, matA_size]; rfl) (by rw [HS.out]; exact matA_one _) ?_))
  rw [HS.out, HP.out]
  refine bodyPost_ret (results_row_tmp rfl _ _ (w.heap.size + 1) 54 _ (0, 0) _ _ (.bool true) rfl rfl (setRow_heap _ _ _ _ _ _ (heap_alloc2_new _ _ _)) Try.underlying54 (rmatInfo _)) rfl ⟨rfl, ?_⟩
  exact setRow_below (((Below.refl _ _).alloc (Nat.le_refl _) _).alloc (by simp) _) (by omega)
set_option maxHeartbeats 1000000 in
set_option maxRecDepth 100000 in
theorem rput_no1 (m : Mm.Gr) (a b : Int) (w : World) (ha : Far a) :
    Calls Try.prog 48 #[.agg (matA m), .int .i64 a, .int .i64 b] w fun e w' => e = .returned (.tuple #[.agg (matA m), .bool false]) ∧ Below w.heap.size w w' := by
  go_enter Try.func48, Try.ntmps48
  go_wp2_with (first
    | (go_at_call 63; refine (rnode_no _ _ ha).mono ?_; rintro e w' ⟨rfl, rfl⟩)
    | (refine wpList_load_row rfl 54 (.tmp 3) rfl w.heap.size rfl 54 (matA m) (0, 0) _ (heap_alloc2_old _ _ _) Try.underlying54 rfl (rmatInfo m) ?_)
    | (refine wpList_store_row rfl 54 (.tmp 6) (.tmp 21) rfl (w.heap.size + 1) (matA m) rfl rfl 54 _ (heap_alloc2_new _ _ _) (rmatInfo m) (by rw [matA_size]; rfl) (matA_one _) ?_))
  refine bodyPost_ret (results_row_tmp rfl _ _ (w.heap.size + 1) 54 (matA m) (0, 0) _ _ (.bool false) rfl rfl (setRow_heap _ _ _ _ _ _ (heap_alloc2_new _ _ _)) Try.underlying54 (rmatInfo _)) rfl ⟨rfl, ?_⟩
  exact setRow_below (((Below.refl _ _).alloc (Nat.le_refl _) _).alloc (by simp) _) (by omega)
set_option maxHeartbeats 1000000 in
set_option maxRecDepth 100000 in
theorem rput_no2 (m : Mm.Gr) (a : Nat) (b : Int) (w : World) (ha : a < 32) (hb : Far b) :
    Calls Try.prog 48 #[.agg (matA m), .int .i64 (a : Nat), .int .i64 b] w fun e w' => e = .returned (.tuple #[.agg (matA m), .bool false]) ∧ Below w.heap.size w w' := by
  go_enter Try.func48, Try.ntmps48
  go_wp2_with (first
    | (go_at_call_of 63 b; refine (rnode_no _ _ hb).mono ?_; rintro e w' ⟨rfl, rfl⟩)
    | (go_at_call 63; refine (rnode_yes _ _ ha).mono ?_; rintro e w' ⟨rfl, rfl⟩)
    | (refine wpList_load_row rfl 54 (.tmp 3) rfl w.heap.size rfl 54 (matA m) (0, 0) _ (heap_alloc2_old _ _ _) Try.underlying54 rfl (rmatInfo m) ?_)
    | (refine wpList_store_row rfl 54 (.tmp 6) (.tmp 21) rfl (w.heap.size + 1) (matA m) rfl rfl 54 _ (heap_alloc2_new _ _ _) (rmatInfo m) (by rw [matA_size]; rfl) (matA_one _) ?_))
  refine bodyPost_ret (results_row_tmp rfl _ _ (w.heap.size + 1) 54 (matA m) (0, 0) _ _ (.bool false) rfl rfl (setRow_heap _ _ _ _ _ _ (heap_alloc2_new _ _ _)) Try.underlying54 (rmatInfo _)) rfl ⟨rfl, ?_⟩
  exact setRow_below (((Below.refl _ _).alloc (Nat.le_refl _) _).alloc (by simp) _) (by omega)
set_option maxHeartbeats 1000000 in
set_option maxRecDepth 100000 in
theorem rput_no3 (m : Mm.Gr) (a : Nat) (w : World) (ha : a < 32) :
    Calls Try.prog 48 #[.agg (matA m), .int .i64 (a : Nat), .int .i64 (a : Nat)] w fun e w' => e = .returned (.tuple #[.agg (matA m), .bool false]) ∧ Below w.heap.size w w' := by
  go_enter Try.func48, Try.ntmps48
  go_wp2_with (first
    | (go_at_call 63; refine (rnode_yes _ _ ha).mono ?_; rintro e w' ⟨rfl, rfl⟩)
    | (refine wpList_load_row rfl 54 (.tmp 3) rfl w.heap.size rfl 54 (matA m) (0, 0) _ (heap_alloc2_old _ _ _) Try.underlying54 rfl (rmatInfo m) ?_)
    | (refine wpList_store_row rfl 54 (.tmp 6) (.tmp 21) rfl (w.heap.size + 1) (matA m) rfl rfl 54 _ (heap_alloc2_new _ _ _) (rmatInfo m) (by rw [matA_size]; rfl) (matA_one _) ?_))
  refine bodyPost_ret (results_row_tmp rfl _ _ (w.heap.size + 1) 54 (matA m) (0, 0) _ _ (.bool false) rfl rfl (setRow_heap _ _ _ _ _ _ (heap_alloc2_new _ _ _)) Try.underlying54 (rmatInfo _)) rfl ⟨rfl, ?_⟩
  exact setRow_below (((Below.refl _ _).alloc (Nat.le_refl _) _).alloc (by simp) _) (by omega)
theorem rsub_key (x : Nat) : (x : Int) - (x : Int) % 4294967296 = ((x - x % 4294967296 : Nat) : Int) := by omega
end Go.Proofs.Ytcfdndppkpjleaa
