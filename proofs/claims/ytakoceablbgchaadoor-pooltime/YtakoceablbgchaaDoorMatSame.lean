/-
  Two graphs compared, a graph as both sides hold it, and the statements' own first look: the answers that the document fixes are given.
-/
import Derived.Test.YtakoceablbgchaaDoorMatReach
import Derived.ChangeKeysEq
namespace Go.Proofs.YtakoceablbgchaaDoor
open Go.RowKit
/-- are two graphs the same? -/
def sameM (m n : Mm.Gr) : Bool := (List.range 32).all fun i => m i == n i
theorem sameM_iff (m n : Mm.Gr) : sameM m n = true ↔ ∀ i, i < 32 → m i = n i := by
  unfold sameM
  rw [List.all_eq_true]
  simp
theorem plain_set : Tryd.prog.plainKey 25 = true := by kernel_rfl
theorem plain_u64 : Tryd.prog.plainKey 24 = true := by kernel_rfl
theorem cells_set : Tryd.prog.cellsOf 25 = 1 := by kernel_rfl
theorem cells_u64 : Tryd.prog.cellsOf 24 = 1 := by kernel_rfl
theorem eqItems_mat (w : World) (d : Nat) {e : TypeId} (he : Tryd.prog.plainKey e = true) (hu : Tryd.prog.underlying e = some (.int .u64)) (m n : Mm.Gr) (is : List Nat) (h : ∀ i ∈ is, i < 32) :
    (Op.eqItems (d + 1) e 1 (matA m) (matA n) is).run Tryd.prog w = .ok (is.all fun i => m i == n i) w := by
  induction is with
  | nil => simp [Op.eqItems]
  | cons i is ih =>
    have hi := h i (by simp)
    have hcast : (((m i : Nat) : Int) == ((n i : Nat) : Int)) = (m i == n i) := by
      rw [Bool.eq_iff_iff]; simp; omega
    simp only [Op.eqItems, Sem.run_bind, Nat.mul_one, run_part_plain w he (matA_get m i hi), run_part_plain w he (matA_get n i hi), run_equalIn_int w d e .u64 .u64 _ _ hu, Result.andThen_ok, hcast]
    cases hb : (m i == n i)
    · simp [hb]
    · simp [hb, ih (fun j hj => h j (by simp [hj]))]
theorem info_set : (Tryd.prog.info? 25).isSome = true := by kernel_rfl
theorem info_u64 : (Tryd.prog.info? 24).isSome = true := by kernel_rfl
theorem eq_mat (m n : Mm.Gr) (b : Bool) (h : sameM m n = b) (w : World) : (Op.equalIn 10000 27 (.agg (matA m)) (.agg (matA n))).run Tryd.prog w = .ok b w := by
  obtain ⟨i, hi⟩ := Option.isSome_iff_exists.1 info_set
  rw [← h, run_equalIn_array w 9999 (matA m) (matA n) Tryd.underlying27 hi, cells_set]
  exact eqItems_mat w 9998 plain_set Tryd.underlying25 m n _ (by simp)
theorem eq_rmat (m n : Mm.Gr) (b : Bool) (h : sameM m n = b) (w : World) : (Op.equalIn 10000 35 (.agg (matA m)) (.agg (matA n))).run Tryd.prog w = .ok b w := by
  obtain ⟨i, hi⟩ := Option.isSome_iff_exists.1 info_u64
  rw [← h, run_equalIn_array w 9999 (matA m) (matA n) Tryd.underlying35 hi, cells_u64]
  exact eqItems_mat w 9998 plain_u64 Tryd.underlying24 m n _ (by simp)
theorem size_set (w : World) : (sizeOf 25).run Tryd.prog w = .ok 1 w := by
  obtain ⟨i, hi⟩ := Option.isSome_iff_exists.1 info_set
  rw [run_sizeOf w hi, cells_set]
theorem size_u64 (w : World) : (sizeOf 24).run Tryd.prog w = .ok 1 w := by
  obtain ⟨i, hi⟩ := Option.isSome_iff_exists.1 info_u64
  rw [run_sizeOf w hi, cells_u64]
theorem index_mat (m : Mm.Gr) (k : Nat) (h : k < 32) (w : World) : (Instr.index 27 (.agg (matA m)) (.int .i64 (k : Nat))).run Tryd.prog w = .ok (.int .u64 (m k : Nat)) w := by
  have h1 : 0 ≤ (k : Int) ∧ (k : Int) < ((32 : Nat) : Int) := by omega
  simp only [Instr.index, asIntOf, Sem.run_bind, Sem.run_pure, Result.andThen_ok, run_underlying Tryd.underlying27, h1, size_set, Int.toNat_natCast, Nat.mul_one, run_part_plain w plain_set (matA_get m k h), and_self, if_true]
theorem index_rmat (m : Mm.Gr) (k : Nat) (h : k < 32) (w : World) : (Instr.index 35 (.agg (matA m)) (.int .i64 (k : Nat))).run Tryd.prog w = .ok (.int .u64 (m k : Nat)) w := by
  have h1 : 0 ≤ (k : Int) ∧ (k : Int) < ((32 : Nat) : Int) := by omega
  simp only [Instr.index, asIntOf, Sem.run_bind, Sem.run_pure, Result.andThen_ok, run_underlying Tryd.underlying35, h1, size_u64, Int.toNat_natCast, Nat.mul_one, run_part_plain w plain_u64 (matA_get m k h), and_self, if_true]
theorem wpList_load_want {ops : Array Oper} {rest : List Oper} {o : Oper} {a : Act} {w : World} {Q : Exit → Act → World → Prop} (hw : Region.wanted o (yielded ops a.tmps) = true) (ty : TypeId) (x : Operand) (ho : o.op = .load ty x)
    (g : Nat) (hx : a.eval x = .pointer (some ⟨g, 0, none⟩)) (t : TypeId) (cs : Array Value) (fr : Nat × Nat) (n : Nat) (el : TypeId) (hg : w.heap[g]? = some (.cells cs t fr))
    (hu : Tryd.prog.underlying ty = some (.array n el)) (hi : (Tryd.prog.info? ty).map (·.size) = some cs.size)
    (h : wpList Tryd.prog ops Q rest (a.put o.dst (.agg cs)) w) : wpList Tryd.prog ops Q (o :: rest) a w :=
  wpList_step fun _ hK => by rw [if_pos hw]; exact wp_load_row ty x ho g hx t cs fr _ hg hu rfl hi (hK _ _ h)
/- the same graph -/
def upTo (m : Mm.Gr) (k : Nat) : Mm.Gr := fun i => if i < k then m i else 0
theorem upTo_step (m : Mm.Gr) (k i : Nat) : (if i = k then m k else upTo m k i) = upTo m (k + 1) i := by
  unfold upTo
  by_cases h : i = k
  · subst h; simp
  · by_cases h2 : i < k
    · simp [h, h2, show i < k + 1 from by omega]
    · simp [h, h2, show ¬ i < k + 1 from by omega]
def CopyRel (m : Mm.Gr) (t : Nat) (w : World) (i : Value) (wr : World) : Prop :=
  ∃ k : Nat, k ≤ 32 ∧ i = .int .i64 k ∧ MatAt wr (w.heap.size + 1) zeroM t ∧ MatAt wr (w.heap.size + 2) (upTo m k) t ∧ Below w.heap.size w wr
set_option maxHeartbeats 1000000 in
set_option maxRecDepth 100000 in
theorem ours_any (m : Mm.Gr) (w : World) :
    Calls Tryd.prog 31 #[.agg (matA m)] w fun e w' => e = .returned (.agg (matA m)) ∧ Below w.heap.size w w' := by
  go_enter Tryd.func31, Tryd.ntmps31
  go_wp2_with (refine wpList_load_row rfl 27 (.tmp 1) rfl w.heap.size rfl 27 (matA m) (0, 0) _ (((matAt_new w m 27).alloc _).alloc _) Tryd.underlying27 rfl (matInfo m) ?_)
  go_loopw [7] (CopyRel m 35 w) (fun i _ => 32 - (intOf i).toNat)
  case atStart =>
    refine ⟨0, by omega, rfl, ?_, ?_, (((Below.refl _ _).alloc (Nat.le_refl _) _).alloc (by simp) _).alloc (by simp; omega) _⟩
    · refine MatAt.alloc ?_ _
      have := zero_lit (w.alloc (.cells (matA m) 27)) 35
      have h2 : MatAt ((w.alloc (.cells (matA m) 27)).alloc (.cells (Array.replicate 32 (Value.int .u64 0)) 35)) (w.heap.size + 1) zeroM 35 := by simpa using this
      exact h2
    · have := zero_lit ((w.alloc (.cells (matA m) 27)).alloc (.cells (Array.replicate 32 (Value.int .u64 0)) 35)) 35
      have h2 : MatAt (((w.alloc (.cells (matA m) 27)).alloc (.cells (Array.replicate 32 (Value.int .u64 0)) 35)).alloc (.cells (Array.replicate 32 (Value.int .u64 0)) 35)) (w.heap.size + 2) zeroM 35 := by simpa using this
      exact h2.ext fun i _ => by simp [upTo, zeroM]
  case round =>
    obtain ⟨k, hk, rfl, h1, h2, hb⟩ := hrel
    have H1 := Lib.hid h1
    have H2 := Lib.hid h2
    by_cases hlt : k < 32
    · have hg := index_mat m k hlt
      have hc := h2.cell k hlt
      have hf := h2.frozen k
      clear h1 h2
      go_wp2
      refine ⟨⟨k + 1, by omega, by go_num, ?_, ?_, hb.setCell (by simp; omega) _⟩, by simp [intOf]; omega⟩
      · exact H1.out.setCell _ _ (by simp)
      · exact (matAt_cell H2.out).ext fun i _ => upTo_step m k i
    · obtain rfl : k = 32 := by omega
      clear h1 h2
      go_wp2_with (first
        | (refine wpList_load_row rfl 35 (.tmp 3) rfl (w.heap.size + 2) rfl 35 _ (0, 0) _ H2.out Tryd.underlying35 rfl (rmatInfo _) ?_)
        | (refine wpList_store_row rfl 35 (.tmp 2) (.tmp 15) rfl (w.heap.size + 1) _ rfl rfl 35 _ H1.out (rmatInfo _) (by rw [matA_size, matA_size]) (matA_one _) ?_))
      rw [matA_ext (m := upTo m 32) (n := m) (fun i hi => by simp [upTo, hi])]
      refine bodyPost_ret (results_cell_row rfl _ _ (w.heap.size + 1) 35 (matA m) (0, 0) _ rfl (setRow_heap _ _ _ _ _ _ H1.out) Tryd.underlying35 rfl (rmatInfo _)) rfl ⟨rfl, ?_⟩
      exact setRow_below hb (by omega)
end Go.Proofs.YtakoceablbgchaaDoor
