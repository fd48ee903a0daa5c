/-
  Contracts of mat.Has, mat.Put and mat.Cut.
-/
import Derived.Test.YtcfdndppkpjleaaMatWalks
namespace Go.Proofs.Ytcfdndppkpjleaa
open Go.RowKit
/-- does the graph m have the edge from a to b? -/
def edge (m : Mm.Gr) (a b : Int) : Bool := decide (0 ≤ a) && (decide (0 ≤ b) && (Mm.outs m a.toNat).testBit b.toNat)
theorem edge_in (m : Mm.Gr) (a : Nat) (b : Int) : Sm.has (Mm.outs m a) b = edge m (a : Nat) b := by
  unfold edge
  have h := Mm.outs_lt m a
  by_cases h0 : 0 ≤ b
  · rw [Sm.has_eq b h0 (by omega)]
    simp [h0]
  · rw [Sm.has_neg (by omega)]
    simp [h0]
theorem edge_far (m : Mm.Gr) (a b : Int) (h : Far a) : edge m a b = false := by
  unfold edge
  have := h.2
  by_cases h0 : 0 ≤ a
  · have : Mm.outs m a.toNat = 0 := by unfold Mm.outs; rw [if_neg (by omega)]
    simp [this]
  · simp [h0]
theorem has_zero (i : Int) : Sm.has 0 i = false := by unfold Sm.has; simp
theorem hasI_val (x : Nat) (k : Int) (b : Bool) (w : World) (hx : x < 18446744073709551616) (h0 : -9223372036854775808 ≤ k) (h1 : k ≤ 9223372036854775807) (h : Sm.has x k = b) :
    Calls Try.prog 74 #[.int .u64 x, .int .i64 k] w fun e w' => e = .returned (.bool b) ∧ w = w' := by
  have := has_any x k w hx h0 h1
  rw [h] at this
  exact this
/- Put -/
def zeroM : Mm.Gr := fun _ => 0
theorem zero_lit (w : World) (t : Nat) : MatAt (w.alloc (.cells (Array.replicate 32 (Value.int .u64 0)) t)) w.heap.size zeroM t := by
  unfold MatAt zeroM; rw [matA_zero]; exact heap_alloc_new _ _
theorem results_row_tmp {fn : Func} {p u : Tmp} {ty : TypeId} (h : fn.results = #[.cell p ty, .tmp u]) (tmps : Array Value) (w : World) (g : Nat) (t : TypeId) (cs : Array Value) (fr : Nat × Nat) (n : Nat) (el : TypeId) (x : Value)
    (hp : tmps.getD p undef = .pointer (some ⟨g, 0, none⟩)) (hx : tmps.getD u undef = x) (hg : w.heap[g]? = some (.cells cs t fr))
    (hu : Try.prog.underlying ty = some (.array n el)) (hi : (Try.prog.info? ty).map (·.size) = some cs.size) :
    (results fn tmps).run Try.prog w = .ok (.tuple #[.agg cs, x]) w := by
  rw [results_cell_tmp h, hp, hx]
  simp [asAddr, Result.andThen, run_loadVar_row w g t ty cs fr _ hg hu rfl hi]
theorem put_eq {m : Mm.Gr} {a b : Nat} (i : Nat) (_ : i < 32) : (if i = a then Sm.add (m a) (b : Nat) else m i) = Mm.put m a b i := by
  unfold Mm.put
  split
  · rename_i h; rw [h]
  · rfl
set_option maxHeartbeats 1000000 in
set_option maxRecDepth 100000 in
theorem put_yes (m : Mm.Gr) (a b : Nat) (w : World) (hm : Mm.Ok m) (ha : a < 32) (hb : b < 32) (hab : a ≠ b) :
    Calls Try.prog 45 #[.agg (matA m), .int .i64 (a : Nat), .int .i64 (b : Nat)] w fun e w' => e = .returned (.tuple #[.agg (matA (Mm.put m a b)), .bool true]) ∧ Below w.heap.size w w' := by
  have hne : (((a : Nat) : Int) == ((b : Nat) : Int)) = false := by simp; omega
  have hg := matA_get m a ha
  have hma := hm a ha
  have HP := Lib.hid (matA_ext (put_eq (m := m) (a := a) (b := b)))
  have HS := Lib.hid (matA_set m a (Sm.add (m a) (b : Nat)))
  have HI := Lib.hid (matInfo m)
  go_enter Try.func45, Try.ntmps45
  go_wp2_with (first
    | (go_at_call 59; refine (node_yes _ _ (by assumption)).mono ?_; rintro e w' ⟨rfl, rfl⟩)
    | (go_at_call 60; refine (with_val _ _ _ _ hma (by omega) rfl).mono ?_; rintro e w' ⟨rfl, rfl⟩)
    | (refine wpList_load_row rfl 50 (.tmp 3) rfl w.heap.size rfl 50 _ (0, 0) _ (heap_alloc2_old _ _ _) Try.underlying50 rfl (by rw [Array.size_setIfInBounds]; exact HI.out) ?_)
    | (refine wpList_store_row rfl 50 (.tmp 6) (.tmp 29) rfl (w.heap.size + 1) _ rfl rfl 50 _ (heap_alloc2_new _ _ _) (by rw [Array.size_setIfInBounds]; exact HI.out) (by rw [Array.size_setIfInBounds, matA_size]; rfl) (by rw [HS.out]; exact matA_one _) ?_))
  rw [HS.out, HP.out]
  refine bodyPost_ret (results_row_tmp rfl _ _ (w.heap.size + 1) 50 _ (0, 0) _ _ (.bool true) rfl rfl (setRow_heap _ _ _ _ _ _ (heap_alloc2_new _ _ _)) Try.underlying50 (matInfo _)) rfl ⟨rfl, ?_⟩
  exact setRow_below (((Below.refl _ _).alloc (Nat.le_refl _) _).alloc (by simp) _) (by omega)
set_option maxHeartbeats 1000000 in
set_option maxRecDepth 100000 in
theorem put_no1 (m : Mm.Gr) (a b : Int) (w : World) (ha : Far a) :
    Calls Try.prog 45 #[.agg (matA m), .int .i64 a, .int .i64 b] w fun e w' => e = .returned (.tuple #[.agg (matA m), .bool false]) ∧ Below w.heap.size w w' := by
  go_enter Try.func45, Try.ntmps45
  go_wp2_with (first
    | (go_at_call 59; refine (node_no _ _ ha).mono ?_; rintro e w' ⟨rfl, rfl⟩)
    | (refine wpList_load_row rfl 50 (.tmp 3) rfl w.heap.size rfl 50 (matA m) (0, 0) _ (heap_alloc2_old _ _ _) Try.underlying50 rfl (matInfo m) ?_)
    | (refine wpList_store_row rfl 50 (.tmp 6) (.tmp 21) rfl (w.heap.size + 1) (matA m) rfl rfl 50 _ (heap_alloc2_new _ _ _) (matInfo m) (by rw [matA_size]; rfl) (matA_one _) ?_))
  refine bodyPost_ret (results_row_tmp rfl _ _ (w.heap.size + 1) 50 (matA m) (0, 0) _ _ (.bool false) rfl rfl (setRow_heap _ _ _ _ _ _ (heap_alloc2_new _ _ _)) Try.underlying50 (matInfo _)) rfl ⟨rfl, ?_⟩
  exact setRow_below (((Below.refl _ _).alloc (Nat.le_refl _) _).alloc (by simp) _) (by omega)
set_option maxHeartbeats 1000000 in
set_option maxRecDepth 100000 in
theorem put_no2 (m : Mm.Gr) (a : Nat) (b : Int) (w : World) (ha : a < 32) (hb : Far b) :
    Calls Try.prog 45 #[.agg (matA m), .int .i64 (a : Nat), .int .i64 b] w fun e w' => e = .returned (.tuple #[.agg (matA m), .bool false]) ∧ Below w.heap.size w w' := by
  go_enter Try.func45, Try.ntmps45
  go_wp2_with (first
    | (go_at_call_of 59 b; refine (node_no _ _ hb).mono ?_; rintro e w' ⟨rfl, rfl⟩)
    | (go_at_call 59; refine (node_yes _ _ ha).mono ?_; rintro e w' ⟨rfl, rfl⟩)
    | (refine wpList_load_row rfl 50 (.tmp 3) rfl w.heap.size rfl 50 (matA m) (0, 0) _ (heap_alloc2_old _ _ _) Try.underlying50 rfl (matInfo m) ?_)
    | (refine wpList_store_row rfl 50 (.tmp 6) (.tmp 21) rfl (w.heap.size + 1) (matA m) rfl rfl 50 _ (heap_alloc2_new _ _ _) (matInfo m) (by rw [matA_size]; rfl) (matA_one _) ?_))
  refine bodyPost_ret (results_row_tmp rfl _ _ (w.heap.size + 1) 50 (matA m) (0, 0) _ _ (.bool false) rfl rfl (setRow_heap _ _ _ _ _ _ (heap_alloc2_new _ _ _)) Try.underlying50 (matInfo _)) rfl ⟨rfl, ?_⟩
  exact setRow_below (((Below.refl _ _).alloc (Nat.le_refl _) _).alloc (by simp) _) (by omega)
set_option maxHeartbeats 1000000 in
set_option maxRecDepth 100000 in
theorem put_no3 (m : Mm.Gr) (a : Nat) (w : World) (ha : a < 32) :
    Calls Try.prog 45 #[.agg (matA m), .int .i64 (a : Nat), .int .i64 (a : Nat)] w fun e w' => e = .returned (.tuple #[.agg (matA m), .bool false]) ∧ Below w.heap.size w w' := by
  go_enter Try.func45, Try.ntmps45
  go_wp2_with (first
    | (go_at_call 59; refine (node_yes _ _ ha).mono ?_; rintro e w' ⟨rfl, rfl⟩)
    | (refine wpList_load_row rfl 50 (.tmp 3) rfl w.heap.size rfl 50 (matA m) (0, 0) _ (heap_alloc2_old _ _ _) Try.underlying50 rfl (matInfo m) ?_)
    | (refine wpList_store_row rfl 50 (.tmp 6) (.tmp 21) rfl (w.heap.size + 1) (matA m) rfl rfl 50 _ (heap_alloc2_new _ _ _) (matInfo m) (by rw [matA_size]; rfl) (matA_one _) ?_))
  refine bodyPost_ret (results_row_tmp rfl _ _ (w.heap.size + 1) 50 (matA m) (0, 0) _ _ (.bool false) rfl rfl (setRow_heap _ _ _ _ _ _ (heap_alloc2_new _ _ _)) Try.underlying50 (matInfo _)) rfl ⟨rfl, ?_⟩
  exact setRow_below (((Below.refl _ _).alloc (Nat.le_refl _) _).alloc (by simp) _) (by omega)
/- Cut -/
theorem high_and {x : Nat} (h : x < 18446744073709551616) : bits .andNot .u64 (x : Int) 4294967295 = ((x - x % 4294967296 : Nat) : Int) := by
  rw [show (4294967295 : Int) = ((4294967295 : Nat) : Int) from rfl, u64_andNot_nat x _ h (by decide)]
  congr 1
  apply Sm.ext; intro j
  rw [Mm.clr_test, Nat.testBit_and]
  have e : (18446744073709551615 - 4294967295).testBit j = (decide (32 ≤ j) && decide (j < 64)) := by
    have : 18446744073709551615 - 4294967295 = 2 ^ 64 - (4294967295 + 1) := by decide
    rw [this, Nat.testBit_two_pow_sub_succ (by decide), show (4294967295 : Nat) = 2 ^ 32 - 1 from rfl, Nat.testBit_two_pow_sub_one]
    rw [Bool.eq_iff_iff]; simp; omega
  rw [e]
  by_cases hj : j < 64
  · simp [hj]
  · rw [Sm.test_big h (by omega)]; simp
theorem clr_eq {m : Mm.Gr} {a : Nat} (i : Nat) (_ : i < 32) : (if i = a then m a - m a % 4294967296 else m i) = Mm.clr m a i := by
  unfold Mm.clr
  split
  · rename_i h; rw [h]
  · rfl
theorem cutTo_zero (m : Mm.Gr) (a i : Nat) : Mm.clr m a i = Mm.cutTo (Mm.clr m a) a 0 i := by unfold Mm.cutTo; rw [if_neg (by omega)]
theorem cutTo_step (m : Mm.Gr) (a k i : Nat) : (if i = k then Sm.less (Mm.cutTo m a k k) (a : Nat) else Mm.cutTo m a k i) = Mm.cutTo m a (k + 1) i := by
  unfold Mm.cutTo
  by_cases h : i = k
  · subst h; simp
  · by_cases h2 : i < k
    · simp [h, h2, show i < k + 1 from by omega]
    · simp [h, h2, show ¬ i < k + 1 from by omega]
theorem cutTo_all (m : Mm.Gr) (a i : Nat) (h : i < 32) : Mm.cutTo (Mm.clr m a) a 32 i = Mm.cut m a i := by unfold Mm.cutTo Mm.cut; rw [if_pos h]
theorem cutTo_ok {m : Mm.Gr} (a k : Nat) (h : Mm.Ok m) : Mm.Ok (Mm.cutTo m a k) := by
  intro i hi
  unfold Mm.cutTo
  split
  · exact Sm.less_lt _ (h i hi)
  · exact h i hi
def CutRel (m : Mm.Gr) (a t : Nat) (w : World) (i : Value) (wr : World) : Prop :=
  ∃ k : Nat, k ≤ 32 ∧ i = .int .i64 k ∧ MatAt wr w.heap.size (Mm.cutTo (Mm.clr m a) a k) t ∧ MatAt wr (w.heap.size + 1) zeroM t ∧ Below w.heap.size w wr
end Go.Proofs.Ytcfdndppkpjleaa
