/-
  Contracts of the document's own answers for graphs: Node, Outs, Has, Put and Cut.
-/
import Derived.Test.YtakoceablbgchaaDoorTopoBase
namespace Go.Proofs.YtakoceablbgchaaDoor
open Go.RowKit
set_option maxHeartbeats 400000 in
theorem rnode_yes (a : Nat) (w : World) (h : a < 32) : Calls Tryd.prog 63 #[.int .i64 (a : Nat)] w fun e w' => e = .returned (.bool true) ∧ w = w' := by
  go_enter Tryd.func63, Tryd.ntmps63
  go_wp2
  go_ret
  refine ⟨ret_bool ?_, rfl⟩
  simp; omega
set_option maxHeartbeats 400000 in
theorem rnode_no (a : Int) (w : World) (h : Far a) : Calls Tryd.prog 63 #[.int .i64 a] w fun e w' => e = .returned (.bool false) ∧ w = w' := by
  obtain ⟨_, h⟩ := h
  by_cases hn : a < 0
  · have hd : decide (0 ≤ a) = false := by simp; omega
    go_enter Tryd.func63, Tryd.ntmps63
    go_wp2
    go_ret
    exact ⟨rfl, rfl⟩
  · have h0 : 0 ≤ a := by omega
    have hd : decide (a < 32) = false := by simp; omega
    go_enter Tryd.func63, Tryd.ntmps63
    go_wp2
    go_ret
    exact ⟨rfl, rfl⟩
theorem rwith_val (x k y : Nat) (w : World) (hx : x < 18446744073709551616) (hk : k < 64) (h : Sm.add x (k : Nat) = y) :
    Calls Tryd.prog 57 #[.int .u64 x, .int .i64 (k : Nat)] w fun e w' => e = .returned (.int .u64 (y : Nat)) ∧ w = w' := by
  have := rwith_any x (k : Nat) w hx (by omega) (by omega)
  rw [h] at this
  exact this
theorem rless_val (x k y : Nat) (w : World) (hx : x < 18446744073709551616) (hk : k < 64) (h : Sm.less x (k : Nat) = y) :
    Calls Tryd.prog 56 #[.int .u64 x, .int .i64 (k : Nat)] w fun e w' => e = .returned (.int .u64 (y : Nat)) ∧ w = w' := by
  have := rless_any x (k : Nat) w hx (by omega) (by omega)
  rw [h] at this
  exact this
set_option maxHeartbeats 400000 in
theorem routs_in (m : Mm.Gr) (a : Nat) (w : World) (hm : Mm.Ok m) (ha : a < 32) :
    Calls Tryd.prog 60 #[.agg (matA m), .int .i64 (a : Nat)] w fun e w' => e = .returned (.int .u64 (Mm.outs m a : Nat)) ∧ Below w.heap.size w w' := by
  have hg := matA_get m a ha
  have H2 := Lib.hid (outs_of (m := m) ha)
  have hma := hm a ha
  go_enter Tryd.func60, Tryd.ntmps60
  go_wp2_with (go_at_call 63; refine (rnode_yes _ _ ha).mono ?_; rintro e w' ⟨rfl, rfl⟩)
  go_ret
  rw [H2.out]
  exact ⟨ret_int (by omega), (Below.refl _ _).alloc (Nat.le_refl _) _⟩
set_option maxHeartbeats 400000 in
theorem routs_far (m : Mm.Gr) (a : Int) (w : World) (ha : Far a) :
    Calls Tryd.prog 60 #[.agg (matA m), .int .i64 a] w fun e w' => e = .returned (.int .u64 0) ∧ Below w.heap.size w w' := by
  go_enter Tryd.func60, Tryd.ntmps60
  go_wp2_with (go_at_call 63; refine (rnode_no _ _ ha).mono ?_; rintro e w' ⟨rfl, rfl⟩)
  go_ret
  exact ⟨rfl, (Below.refl _ _).alloc (Nat.le_refl _) _⟩
theorem edge_both {m : Mm.Gr} {a b : Nat} (hm : Mm.Ok m) (ha : a < 32) (hb : b < 32) : Sm.has (m a) (b : Nat) = edge m (a : Nat) (b : Nat) := by
  rw [Sm.has_nat b (hm a ha), ← edge_in, Sm.has_nat b (by have := Mm.outs_lt m a; omega)]
  rw [Bool.eq_iff_iff, Mm.outs_test]
  unfold Mm.E
  simp [ha, hb]
set_option maxHeartbeats 1000000 in
set_option maxRecDepth 100000 in
theorem rput_yes (m : Mm.Gr) (a b : Nat) (w : World) (hm : Mm.Ok m) (ha : a < 32) (hb : b < 32) (hab : a ≠ b) :
    Calls Tryd.prog 71 #[.agg (matA m), .int .i64 (a : Nat), .int .i64 (b : Nat)] w fun e w' => e = .returned (.tuple #[.agg (matA (Mm.put m a b)), .bool true]) ∧ Below w.heap.size w w' := by
  have hne : (((a : Nat) : Int) == ((b : Nat) : Int)) = false := by simp; omega
  have hg := matA_get m a ha
  have hma := hm a ha
  have HP := Lib.hid (matA_ext (put_eq (m := m) (a := a) (b := b)))
  have HS := Lib.hid (matA_set m a (Sm.add (m a) (b : Nat)))
  have HI := Lib.hid (rmatInfo m)
  go_enter Tryd.func71, Tryd.ntmps71
  go_wp2_with (first
    | (go_at_call 63; refine (rnode_yes _ _ (by assumption)).mono ?_; rintro e w' ⟨rfl, rfl⟩)
    | (go_at_call 57; refine (rwith_val _ _ _ _ hma (by omega) rfl).mono ?_; rintro e w' ⟨rfl, rfl⟩)
    | (refine wpList_load_row rfl 35 (.tmp 3) rfl w.heap.size rfl 35 _ (0, 0) _ (heap_alloc2_old _ _ _) Tryd.underlying35 rfl (by rw [Array.size_setIfInBounds]; exact HI.out) ?_)
    | (refine wpList_store_row rfl 35 (.tmp 6) (.tmp 29) rfl (w.heap.size + 1) _ rfl rfl 35 _ (heap_alloc2_new _ _ _) (by rw [Array.size_setIfInBounds]; exact HI.out) (by rw [Array.size_setIfInBounds, matA_size]; rfl) (by rw [HS.out]; exact matA_one _) ?_))
  rw [HS.out, HP.out]
  refine bodyPost_ret (results_row_tmp rfl _ _ (w.heap.size + 1) 35 _ (0, 0) _ _ (.bool true) rfl rfl (setRow_heap _ _ _ _ _ _ (heap_alloc2_new _ _ _)) Tryd.underlying35 (rmatInfo _)) rfl ⟨rfl, ?_⟩
  exact setRow_below (((Below.refl _ _).alloc (Nat.le_refl _) _).alloc (by simp) _) (by omega)
set_option maxHeartbeats 1000000 in
set_option maxRecDepth 100000 in
theorem rput_no1 (m : Mm.Gr) (a b : Int) (w : World) (ha : Far a) :
    Calls Tryd.prog 71 #[.agg (matA m), .int .i64 a, .int .i64 b] w fun e w' => e = .returned (.tuple #[.agg (matA m), .bool false]) ∧ Below w.heap.size w w' := by
  go_enter Tryd.func71, Tryd.ntmps71
  go_wp2_with (first
    | (go_at_call 63; refine (rnode_no _ _ ha).mono ?_; rintro e w' ⟨rfl, rfl⟩)
    | (refine wpList_load_row rfl 35 (.tmp 3) rfl w.heap.size rfl 35 (matA m) (0, 0) _ (heap_alloc2_old _ _ _) Tryd.underlying35 rfl (rmatInfo m) ?_)
    | (refine wpList_store_row rfl 35 (.tmp 6) (.tmp 21) rfl (w.heap.size + 1) (matA m) rfl rfl 35 _ (heap_alloc2_new _ _ _) (rmatInfo m) (by rw [matA_size]; rfl) (matA_one _) ?_))
  refine bodyPost_ret (results_row_tmp rfl _ _ (w.heap.size + 1) 35 (matA m) (0, 0) _ _ (.bool false) rfl rfl (setRow_heap _ _ _ _ _ _ (heap_alloc2_new _ _ _)) Tryd.underlying35 (rmatInfo _)) rfl ⟨rfl, ?_⟩
  exact setRow_below (((Below.refl _ _).alloc (Nat.le_refl _) _).alloc (by simp) _) (by omega)
set_option maxHeartbeats 1000000 in
set_option maxRecDepth 100000 in
theorem rput_no2 (m : Mm.Gr) (a : Nat) (b : Int) (w : World) (ha : a < 32) (hb : Far b) :
    Calls Tryd.prog 71 #[.agg (matA m), .int .i64 (a : Nat), .int .i64 b] w fun e w' => e = .returned (.tuple #[.agg (matA m), .bool false]) ∧ Below w.heap.size w w' := by
  go_enter Tryd.func71, Tryd.ntmps71
  go_wp2_with (first
    | (go_at_call_of 63 b; refine (rnode_no _ _ hb).mono ?_; rintro e w' ⟨rfl, rfl⟩)
    | (go_at_call 63; refine (rnode_yes _ _ ha).mono ?_; rintro e w' ⟨rfl, rfl⟩)
    | (refine wpList_load_row rfl 35 (.tmp 3) rfl w.heap.size rfl 35 (matA m) (0, 0) _ (heap_alloc2_old _ _ _) Tryd.underlying35 rfl (rmatInfo m) ?_)
    | (refine wpList_store_row rfl 35 (.tmp 6) (.tmp 21) rfl (w.heap.size + 1) (matA m) rfl rfl 35 _ (heap_alloc2_new _ _ _) (rmatInfo m) (by rw [matA_size]; rfl) (matA_one _) ?_))
  refine bodyPost_ret (results_row_tmp rfl _ _ (w.heap.size + 1) 35 (matA m) (0, 0) _ _ (.bool false) rfl rfl (setRow_heap _ _ _ _ _ _ (heap_alloc2_new _ _ _)) Tryd.underlying35 (rmatInfo _)) rfl ⟨rfl, ?_⟩
  exact setRow_below (((Below.refl _ _).alloc (Nat.le_refl _) _).alloc (by simp) _) (by omega)
set_option maxHeartbeats 1000000 in
set_option maxRecDepth 100000 in
theorem rput_no3 (m : Mm.Gr) (a : Nat) (w : World) (ha : a < 32) :
    Calls Tryd.prog 71 #[.agg (matA m), .int .i64 (a : Nat), .int .i64 (a : Nat)] w fun e w' => e = .returned (.tuple #[.agg (matA m), .bool false]) ∧ Below w.heap.size w w' := by
  go_enter Tryd.func71, Tryd.ntmps71
  go_wp2_with (first
    | (go_at_call 63; refine (rnode_yes _ _ ha).mono ?_; rintro e w' ⟨rfl, rfl⟩)
    | (refine wpList_load_row rfl 35 (.tmp 3) rfl w.heap.size rfl 35 (matA m) (0, 0) _ (heap_alloc2_old _ _ _) Tryd.underlying35 rfl (rmatInfo m) ?_)
    | (refine wpList_store_row rfl 35 (.tmp 6) (.tmp 21) rfl (w.heap.size + 1) (matA m) rfl rfl 35 _ (heap_alloc2_new _ _ _) (rmatInfo m) (by rw [matA_size]; rfl) (matA_one _) ?_))
  refine bodyPost_ret (results_row_tmp rfl _ _ (w.heap.size + 1) 35 (matA m) (0, 0) _ _ (.bool false) rfl rfl (setRow_heap _ _ _ _ _ _ (heap_alloc2_new _ _ _)) Tryd.underlying35 (rmatInfo _)) rfl ⟨rfl, ?_⟩
  exact setRow_below (((Below.refl _ _).alloc (Nat.le_refl _) _).alloc (by simp) _) (by omega)
set_option maxHeartbeats 1000000 in
set_option maxRecDepth 100000 in
theorem rcut_far (m : Mm.Gr) (a : Int) (w : World) (ha : Far a) :
    Calls Tryd.prog 40 #[.agg (matA m), .int .i64 a] w fun e w' => e = .returned (.agg (matA m)) ∧ Below w.heap.size w w' := by
  go_enter Tryd.func40, Tryd.ntmps40
  go_wp2_with (first
    | (go_at_call 63; refine (rnode_no _ _ ha).mono ?_; rintro e w' ⟨rfl, rfl⟩)
    | (refine wpList_load_row rfl 35 (.tmp 2) rfl w.heap.size rfl 35 (matA m) (0, 0) _ (heap_alloc2_old _ _ _) Tryd.underlying35 rfl (rmatInfo m) ?_)
    | (refine wpList_store_row rfl 35 (.tmp 4) (.tmp 9) rfl (w.heap.size + 1) (matA m) rfl rfl 35 _ (heap_alloc2_new _ _ _) (rmatInfo m) (by rw [matA_size]; rfl) (matA_one _) ?_))
  refine bodyPost_ret (results_cell_row rfl _ _ (w.heap.size + 1) 35 (matA m) (0, 0) _ rfl (setRow_heap _ _ _ _ _ _ (heap_alloc2_new _ _ _)) Tryd.underlying35 rfl (rmatInfo _)) rfl ⟨rfl, ?_⟩
  exact setRow_below (((Below.refl _ _).alloc (Nat.le_refl _) _).alloc (by simp) _) (by omega)
theorem rsub_key (x : Nat) : (x : Int) - (x : Int) % 4294967296 = ((x - x % 4294967296 : Nat) : Int) := by omega
set_option maxHeartbeats 1000000 in
set_option maxRecDepth 100000 in
theorem rcut_in (m : Mm.Gr) (a : Nat) (w : World) (hm : Mm.Ok m) (ha : a < 32) :
    Calls Tryd.prog 40 #[.agg (matA m), .int .i64 (a : Nat)] w fun e w' => e = .returned (.agg (matA (Mm.cut m a))) ∧ Below w.heap.size w w' := by
  have hg := matA_get m a ha
  have hma := hm a ha
  have HA := Lib.hid (rsub_key (m a))
  have HO := Lib.hid (Mm.clr_ok a hm)
  go_enter Tryd.func40, Tryd.ntmps40
  go_wp2_with (go_at_call 63; refine (rnode_yes _ _ ha).mono ?_; rintro e w' ⟨rfl, rfl⟩)
  go_region
  rw [HA.out, matA_set, matA_ext (clr_eq (m := m) (a := a))]
  go_wp2
  go_loopw [5] (CutRel m a 35 w) (fun i _ => 32 - (intOf i).toNat)
  case atStart =>
    refine ⟨0, by omega, rfl, ?_, ?_, ?_⟩
    · exact MatAt.drew (MatAt.ext (show MatAt _ _ _ _ from heap_alloc2_old _ _ _) fun i _ => cutTo_zero m a i)
    · refine MatAt.drew ?_
      unfold MatAt zeroM; rw [matA_zero]; exact heap_alloc2_new _ _ _
    · exact (((Below.refl _ _).alloc (Nat.le_refl _) _).alloc (by simp) _).drew
  case round =>
    obtain ⟨k, hk, rfl, h0, h1, hb⟩ := hrel
    have H0 := Lib.hid h0
    have H1 := Lib.hid h1
    by_cases hlt : k < 32
    · have hc := h0.cell k hlt
      have hf := h0.frozen k
      have hq := cutTo_ok a k HO.out k hlt
      clear h0 h1
      go_wp2_with (go_at_call 56; refine (rless_val _ _ _ _ hq (by omega) rfl).mono ?_; rintro e w' ⟨rfl, rfl⟩)
      refine ⟨⟨k + 1, by omega, by go_num, ?_, ?_, hb.setCell (by simp) _⟩, by simp [intOf]; omega⟩
      · exact (matAt_cell H0.out).ext fun i _ => cutTo_step _ a k i
      · exact H1.out.setCell _ _ (by simp)
    · obtain rfl : k = 32 := by omega
      clear h0 h1
      go_wp2_with (first
        | (refine wpList_load_row rfl 35 (.tmp 2) rfl w.heap.size rfl 35 _ (0, 0) _ H0.out Tryd.underlying35 rfl (rmatInfo _) ?_)
        | (refine wpList_store_row rfl 35 (.tmp 4) (.tmp 31) rfl (w.heap.size + 1) _ rfl rfl 35 _ H1.out (rmatInfo _) (by rw [matA_size, matA_size]) (matA_one _) ?_))
      rw [matA_ext (cutTo_all m a)]
      refine bodyPost_ret (results_cell_row rfl _ _ (w.heap.size + 1) 35 (matA (Mm.cut m a)) (0, 0) _ rfl (setRow_heap _ _ _ _ _ _ H1.out) Tryd.underlying35 rfl (rmatInfo _)) rfl ⟨rfl, ?_⟩
      exact setRow_below hb (by omega)
end Go.Proofs.YtakoceablbgchaaDoor
