/-
  Two matrices compared; a row of one that another one has.
-/
import Derived.Test.YtcfdndppkpjleaaMatOps
import Derived.Test.YtcfdndppkpjleaaMatLeast
import Derived.ChangeKeysEq
namespace Go.Proofs.Ytcfdndppkpjleaa
open Go.RowKit
/-- are two graphs the same? -/
def sameM (m n : Mm.Gr) : Bool := (List.range 32).all fun i => m i == n i
theorem sameM_iff (m n : Mm.Gr) : sameM m n = true ↔ ∀ i, i < 32 → m i = n i := by
  unfold sameM
  rw [List.all_eq_true]
  simp
theorem plain_set : Try.prog.plainKey 48 = true := by kernel_rfl
theorem plain_u64 : Try.prog.plainKey 47 = true := by kernel_rfl
theorem cells_set : Try.prog.cellsOf 48 = 1 := by kernel_rfl
theorem cells_u64 : Try.prog.cellsOf 47 = 1 := by kernel_rfl
theorem eqItems_mat (w : World) (d : Nat) {e : TypeId} (he : Try.prog.plainKey e = true) (hu : Try.prog.underlying e = some (.int .u64)) (m n : Mm.Gr) (is : List Nat) (h : ∀ i ∈ is, i < 32) :
    (Op.eqItems (d + 1) e 1 (matA m) (matA n) is).run Try.prog w = .ok (is.all fun i => m i == n i) w := by
  induction is with
  | nil => simp [Op.eqItems]
  | cons i is ih =>
    have hi := h i (by simp)
    have hcast : (((m i : Nat) : Int) == ((n i : Nat) : Int)) = (m i == n i) := by
      rw [Bool.eq_iff_iff]; simp; omega
    simp only [Op.eqItems, Sem.run_bind, Nat.mul_one, run_part_plain w he (matA_get m i hi), run_part_plain w he (matA_get n i hi), run_equalIn_int w d e .u64 .u64 _ _ hu, Result.andThen_ok, hcast]
    cases hb : (m i == n i)
    · simp [hb]
    · simp [hb, ih (fun j hj => h j (by simp [hj]))]
theorem info_set : (Try.prog.info? 48).isSome = true := by kernel_rfl
theorem info_u64 : (Try.prog.info? 47).isSome = true := by kernel_rfl
theorem eq_mat (m n : Mm.Gr) (b : Bool) (h : sameM m n = b) (w : World) : (Op.equalIn 10000 50 (.agg (matA m)) (.agg (matA n))).run Try.prog w = .ok b w := by
  obtain ⟨i, hi⟩ := Option.isSome_iff_exists.1 info_set
  rw [← h, run_equalIn_array w 9999 (matA m) (matA n) Try.underlying50 hi, cells_set]
  exact eqItems_mat w 9998 plain_set Try.underlying48 m n _ (by simp)
theorem eq_rmat (m n : Mm.Gr) (b : Bool) (h : sameM m n = b) (w : World) : (Op.equalIn 10000 54 (.agg (matA m)) (.agg (matA n))).run Try.prog w = .ok b w := by
  obtain ⟨i, hi⟩ := Option.isSome_iff_exists.1 info_u64
  rw [← h, run_equalIn_array w 9999 (matA m) (matA n) Try.underlying54 hi, cells_u64]
  exact eqItems_mat w 9998 plain_u64 Try.underlying47 m n _ (by simp)
theorem none_over {x y : Nat} (hx : x < 4294967296) (hy : y < 4294967296) (h : ∀ j, x.testBit j = true → y.testBit j = true) : bits .andNot .u64 ((x : Nat) : Int) ((y : Nat) : Int) = 0 := by
  rw [u64_andNot_nat x y (by omega) (by omega)]
  have : x &&& (18446744073709551615 - y) = 0 := by
    apply Sm.ext; intro j
    rw [Mm.less_all (by omega) (by omega), Nat.zero_testBit]
    cases hb : x.testBit j
    · rfl
    · rw [h j hb]; rfl
  rw [this]; rfl
end Go.Proofs.Ytcfdndppkpjleaa
