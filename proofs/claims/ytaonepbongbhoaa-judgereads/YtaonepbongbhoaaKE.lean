/-
  Contracts of the functions of package set, and of the two of math/bits that it calls: each returns what the plain mathematics says, and leaves the world as it was.
  Contracts of the document's own answers for sets: each returns what the plain mathematics says.
  Contracts of the document's own answers for sets, those that make rows: Bits, Items, First, Same.
  Contracts of the functions of package mat: each returns what the plain mathematics says, and nothing that was there is changed.
  Contracts of mat.Has, mat.Put and mat.Cut.
  A goto's scope, the invariant said over what stands behind the label.
-/
import Derived.Test.YtaonepbongbhoaaProg
import Derived.Test.YtaonepbongbhoaaKA
import Derived.WalkKit
import Derived.Laws.Bits64b
import Derived.Laws.BitsAllLaws
import Derived.Shelf.Spec.TrailingZeros
import Derived.Lib.Hide
import Derived.Laws.Rows
import Derived.Deep.QuietTactic
import Derived.BigQuiet
import Derived.Laws.ResultCell
import Derived.Deep.RegionWith
import Derived.Deep.RegionHeld3
import Derived.Deep.DrawnRows
import Derived.ScopeJumps
namespace Go.Proofs.Ytaonepbongbhoaa
open Go.RowKit

theorem ret_int {k : IntKind} {a b : Int} (h : a = b) : Ending.returned (.int k a) = .returned (.int k b) := by rw [h]
theorem ret_bool {a b : Bool} (h : a = b) : Ending.returned (.bool a) = .returned (.bool b) := by rw [h]
theorem ret_val {a b : Value} (h : a = b) : Ending.returned a = .returned b := by rw [h]

theorem bit_wrap (i : Int) (hn : 0 ≤ i) (hg : i ≤ 63) : IntKind.u64.wrap (2 ^ i.toNat) = (Sm.bit i : Nat) := by
  have h := Sm.bit_lt i
  rw [Sm.bit_in hn hg] at h ⊢
  rw [IntKind.wrap_u64]
  have e : ((2 : Int) ^ i.toNat) = ((2 ^ i.toNat : Nat) : Int) := by simp
  rw [e]; generalize 2 ^ i.toNat = y at *; omega

set_option maxHeartbeats 400000 in
theorem bit_any (i : Int) (w : World) (h0 : -9223372036854775808 ≤ i) (h1 : i ≤ 9223372036854775807) :
    Calls Try.prog 51 #[.int .i64 i] w fun e w' => e = .returned (.int .u64 (Sm.bit i : Nat)) ∧ w = w' := by
  by_cases hn : i < 0
  · have H := Lib.hid (Sm.bit_out (i := i) (.inl hn))
    go_enter Try.func51, Try.ntmps51
    go_wp2
    go_ret
    rw [H.out]; exact ⟨rfl, rfl⟩
  · by_cases hg : 63 < i
    · have H := Lib.hid (Sm.bit_out (i := i) (.inr hg))
      go_enter Try.func51, Try.ntmps51
      go_wp2
      go_ret
      rw [H.out]; exact ⟨rfl, rfl⟩
    · have H := Lib.hid (bit_wrap i (by omega) (by omega))
      have hn' : 0 ≤ i := by omega
      go_enter Try.func51, Try.ntmps51
      go_wp2
      go_ret
      exact ⟨ret_int H.out, rfl⟩

theorem has_key (x : Nat) (i : Int) (h : x < 18446744073709551616) : (bits .and .u64 (x : Int) (Sm.bit i : Nat) != 0) = Sm.has x i := by
  rw [bits_and_u64_nat x _ h (Sm.bit_lt i), Sm.has_and, Bool.eq_iff_iff]
  simp
theorem add_key (x : Nat) (i : Int) (h : x < 18446744073709551616) : bits .or .u64 (x : Int) (Sm.bit i : Nat) = (Sm.add x i : Nat) := by
  rw [bits_or_u64_nat x _ h (Sm.bit_lt i)]; rfl
theorem less_key (x : Nat) (i : Int) (h : x < 18446744073709551616) : bits .andNot .u64 (x : Int) (Sm.bit i : Nat) = (Sm.less x i : Nat) := by
  rw [u64_andNot_nat x _ h (Sm.bit_lt i)]; rfl

set_option maxHeartbeats 400000 in
theorem has_any (x : Nat) (i : Int) (w : World) (hx : x < 18446744073709551616) (h0 : -9223372036854775808 ≤ i) (h1 : i ≤ 9223372036854775807) :
    Calls Try.prog 32 #[.int .u64 x, .int .i64 i] w fun e w' => e = .returned (.bool (Sm.has x i)) ∧ w = w' := by
  have H := Lib.hid (has_key x i hx)
  go_enter Try.func32, Try.ntmps32
  go_wp2_with (go_at_call 51; refine (bit_any _ _ h0 h1).mono ?_; rintro e w' ⟨rfl, rfl⟩)
  go_ret
  exact ⟨ret_bool H.out, rfl⟩
set_option maxHeartbeats 400000 in
theorem with_any (x : Nat) (i : Int) (w : World) (hx : x < 18446744073709551616) (h0 : -9223372036854775808 ≤ i) (h1 : i ≤ 9223372036854775807) :
    Calls Try.prog 37 #[.int .u64 x, .int .i64 i] w fun e w' => e = .returned (.int .u64 (Sm.add x i : Nat)) ∧ w = w' := by
  have H := Lib.hid (add_key x i hx)
  go_enter Try.func37, Try.ntmps37
  go_wp2_with (go_at_call 51; refine (bit_any _ _ h0 h1).mono ?_; rintro e w' ⟨rfl, rfl⟩)
  go_ret
  exact ⟨ret_int H.out, rfl⟩
set_option maxHeartbeats 400000 in
theorem less_any (x : Nat) (i : Int) (w : World) (hx : x < 18446744073709551616) (h0 : -9223372036854775808 ≤ i) (h1 : i ≤ 9223372036854775807) :
    Calls Try.prog 38 #[.int .u64 x, .int .i64 i] w fun e w' => e = .returned (.int .u64 (Sm.less x i : Nat)) ∧ w = w' := by
  have H := Lib.hid (less_key x i hx)
  go_enter Try.func38, Try.ntmps38
  go_wp2_with (go_at_call 51; refine (bit_any _ _ h0 h1).mono ?_; rintro e w' ⟨rfl, rfl⟩)
  go_ret
  exact ⟨ret_int H.out, rfl⟩

/- how many -/
theorem k1 (x : Nat) (hx : x < 18446744073709551616) : IntKind.u64.wrap (bits .and .u64 ((x : Int) / 2) 6148914691236517205 + bits .and .u64 (x : Int) 6148914691236517205) = (Sm.q1 8 x : Nat) := by
  have h := Sm.q1_lt x
  rw [show ((x : Int) / 2) = ((x / 2 : Nat) : Int) from rfl, show (6148914691236517205 : Int) = ((6148914691236517205 : Nat) : Int) from rfl, bits_and_u64_nat _ _ (by omega) (by decide), bits_and_u64_nat _ _ hx (by decide), IntKind.wrap_u64]
  unfold Sm.q1 at h ⊢
  rw [Sm.m5_8] at h ⊢
  omega
theorem k2 (x : Nat) : IntKind.u64.wrap (bits .and .u64 (((Sm.q1 8 x : Nat) : Int) / 4) 3689348814741910323 + bits .and .u64 ((Sm.q1 8 x : Nat) : Int) 3689348814741910323) = (Sm.t12 8 x : Nat) := by
  have h := Sm.q1_lt x
  have h2 := Sm.q2_lt (Sm.q1 8 x)
  show _ = ((Sm.q2 8 (Sm.q1 8 x) : Nat) : Int)
  generalize Sm.q1 8 x = y at *
  rw [show ((y : Int) / 4) = ((y / 4 : Nat) : Int) from rfl, show (3689348814741910323 : Int) = ((3689348814741910323 : Nat) : Int) from rfl, bits_and_u64_nat _ _ (by omega) (by decide), bits_and_u64_nat _ _ h (by decide), IntKind.wrap_u64]
  unfold Sm.q2 at h2 ⊢
  rw [Sm.m3_8] at h2 ⊢
  omega
theorem t12_lt (x : Nat) : Sm.t12 8 x < 9223372036854775808 := Sm.q2_lt _
theorem k3 (x : Nat) : bits .and .u64 (IntKind.u64.wrap (((Sm.t12 8 x : Nat) : Int) / 16 + ((Sm.t12 8 x : Nat) : Int))) 1085102592571150095 = (Sm.t123 8 x : Nat) := by
  have h := t12_lt x
  show _ = ((Sm.q3 8 (Sm.t12 8 x) : Nat) : Int)
  generalize Sm.t12 8 x = y at *
  have e : IntKind.u64.wrap ((y : Int) / 16 + (y : Int)) = ((y / 16 + y : Nat) : Int) := by rw [IntKind.wrap_u64]; omega
  rw [e, show (1085102592571150095 : Int) = ((1085102592571150095 : Nat) : Int) from rfl, bits_and_u64_nat _ _ (by omega) (by decide)]
  unfold Sm.q3
  rw [Sm.mF_8]
theorem k4 (x : Nat) : IntKind.u64.wrap (((Sm.t123 8 x : Nat) : Int) + ((Sm.t123 8 x : Nat) : Int) / 256) = (Sm.z1 x : Nat) := by
  have h := Sm.pop x
  rw [IntKind.wrap_u64]; unfold Sm.z1 at *; omega
theorem k5 (x : Nat) : IntKind.u64.wrap (((Sm.z1 x : Nat) : Int) + ((Sm.z1 x : Nat) : Int) / 65536) = (Sm.z2 x : Nat) := by
  have h := Sm.pop x
  rw [IntKind.wrap_u64]; unfold Sm.z2 at *; omega
theorem k6 (x : Nat) : IntKind.u64.wrap (((Sm.z2 x : Nat) : Int) + ((Sm.z2 x : Nat) : Int) / 4294967296) = (Sm.z3 x : Nat) := by
  have h := Sm.pop x
  rw [IntKind.wrap_u64]; unfold Sm.z3 at *; omega
theorem k7 (x : Nat) : bits .and .i64 (wrap64 ((Sm.z3 x : Nat) : Int)) 127 = (Sm.count x : Nat) := by
  obtain ⟨_, _, _, h, hc⟩ := Sm.pop x
  have e : wrap64 ((Sm.z3 x : Nat) : Int) = ((Sm.z3 x : Nat) : Int) := by unfold wrap64; omega
  rw [e]
  have := bits_mask .i64 63 (by decide) (fun n h0 h1 => by rw [IntKind.wrap_i64]; omega) 7 (by decide) ((Sm.z3 x : Nat) : Int) (by omega) (by omega)
  have e2 : bits .and .i64 ((Sm.z3 x : Nat) : Int) 127 = ((Sm.z3 x : Nat) : Int) % 128 := this
  rw [e2]; omega
/- the least one -/
def TabAt (w : World) : Prop := ∀ j, j < 64 → w.cell? ⟨0, j, none⟩ = some (.int .u8 (Lib.deBruijn64tab.getD j 0))
end Go.Proofs.Ytaonepbongbhoaa
namespace Go.Proofs.Ytaonepbongbhoaa
open Go.RowKit

theorem pow_lt64 {k : Nat} (h : k ≤ 63) : (2 : Nat) ^ k < 18446744073709551616 := by
  have : (2 : Nat) ^ k < 2 ^ 64 := Nat.pow_lt_pow_right (by decide) (by omega)
  simpa using this
theorem pow_step {k : Nat} (h : k < 63) : IntKind.u64.wrap (((2 ^ k : Nat) : Int) * 2) = ((2 ^ (k + 1) : Nat) : Int) := by
  have := pow_lt64 (k := k + 1) (by omega)
  rw [IntKind.wrap_u64]
  have e : (2 : Nat) ^ (k + 1) = 2 ^ k * 2 := Nat.pow_succ ..
  rw [e] at this ⊢
  generalize 2 ^ k = y at *
  omega
def pw (k : Nat) : Nat := 2 ^ k
theorem test_div (x k : Nat) : ((((x : Nat) : Int) / ((pw k : Nat) : Int) % 2 : Int) == 1) = x.testBit k := by
  rw [Nat.testBit_eq_decide_div_mod_eq, Bool.eq_iff_iff]
  unfold pw
  generalize 2 ^ k = y
  have e : ((x : Int) / (y : Int) % 2) = ((x / y % 2 : Nat) : Int) := by rw [Int.natCast_emod, Int.natCast_ediv]; rfl
  rw [e]
  simp
  omega
theorem test_tmod (x k : Nat) (hx : x < 18446744073709551616) : ((IntKind.u64.wrap (((x : Nat) : Int) / ((pw k : Nat) : Int))).tmod 2 == 1) = x.testBit k := by
  have e : ((x : Int) / ((pw k : Nat) : Int)) = ((x / pw k : Nat) : Int) := by rw [Int.natCast_ediv]
  have hle : x / pw k ≤ x := Nat.div_le_self _ _
  have hd := test_div x k
  rw [e] at hd ⊢
  generalize x / pw k = q at *
  have e2 : IntKind.u64.wrap (q : Int) = (q : Int) := by rw [IntKind.wrap_u64]; omega
  rw [e2, Int.tmod_eq_emod_of_nonneg (by omega)]
  exact hd
theorem pw_ne (k : Nat) : ((((pw k : Nat) : Int)) == 0) = false := by
  have : 0 < pw k := Nat.pow_pos (by decide)
  simp; omega
theorem pw_pos (k : Nat) : 0 < pw k := Nat.pow_pos (by decide)
theorem or_free {x k : Nat} (h : x.testBit k = false) : x ||| 2 ^ k = x + 2 ^ k := by
  have e : x = (x / 2 ^ (k + 1)) * 2 ^ (k + 1) + x % 2 ^ k := by
    have h1 : x % 2 ^ (k + 1) = x % 2 ^ k := by
      rw [Nat.testBit_eq_decide_div_mod_eq] at h
      have h2 : x / 2 ^ k % 2 = 0 := by
        have := of_decide_eq_false h
        omega
      rw [Nat.pow_succ, Nat.mod_mul, h2]
      simp
    have := Nat.div_add_mod x (2 ^ (k + 1))
    rw [h1, Nat.mul_comm] at this
    exact this.symm
  apply Nat.eq_of_testBit_eq
  intro j
  rw [Nat.testBit_or, Nat.testBit_two_pow]
  have hm : x % 2 ^ k < 2 ^ k := Nat.mod_lt _ (Nat.pow_pos (by decide))
  have e2 : x + 2 ^ k = 2 ^ (k + 1) * (x / 2 ^ (k + 1)) + (2 ^ k + x % 2 ^ k) := by
    rw [Nat.mul_comm (2 ^ (k + 1))]
    omega
  have e3 : x = 2 ^ (k + 1) * (x / 2 ^ (k + 1)) + x % 2 ^ k := by rw [Nat.mul_comm]; exact e
  have hlt : 2 ^ k + x % 2 ^ k < 2 ^ (k + 1) := by rw [Nat.pow_succ]; omega
  rw [e2, Nat.testBit_two_pow_mul_add _ hlt]
  conv => lhs; lhs; rw [e3, Nat.testBit_two_pow_mul_add _ (Nat.lt_trans hm (Nat.pow_lt_pow_right (by decide) (by omega)))]
  by_cases hj : j < k + 1
  · simp only [hj, if_true]
    by_cases hjk : k = j
    · subst hjk
      rw [Nat.testBit_two_pow_add_eq, Nat.testBit_lt_two_pow hm]
      simp
    · rw [Nat.testBit_two_pow_add_gt (by omega)]
      simp [hjk]
  · simp only [hj, if_false]
    have : ¬ k = j := by omega
    simp [this]
theorem add_not {x k : Nat} (hk : k ≤ 63) (h : x.testBit k = false) : Sm.add x (k : Nat) = x + pw k := by
  unfold Sm.add
  rw [Sm.bit_in (by omega) (by omega), Int.toNat_natCast]
  exact or_free h
theorem less_yes {x k : Nat} (hx : x < 18446744073709551616) (hk : k ≤ 63) (h : x.testBit k = true) : Sm.less x (k : Nat) + pw k = x := by
  have h1 : (Sm.less x (k : Nat)).testBit k = false := by
    rw [Sm.less_test _ _ hx, decide_eq_true (by omega)]; simp
  have h2 := add_not hk h1
  rw [← h2]
  apply Sm.ext; intro j
  rw [Sm.add_test, Sm.less_test _ _ hx]
  by_cases e : j = k
  · subst e
    rw [decide_eq_true (by omega : (0 ≤ ((j : Nat) : Int) ∧ ((j : Nat) : Int) ≤ 63 ∧ ((j : Nat) : Int) = ((j : Nat) : Int)))]; simp [h]
  · rw [decide_eq_false (by omega : ¬ (0 ≤ ((k : Nat) : Int) ∧ ((k : Nat) : Int) ≤ 63 ∧ ((j : Nat) : Int) = ((k : Nat) : Int)))]; simp
end Go.Proofs.Ytaonepbongbhoaa
namespace Go.Proofs.Ytaonepbongbhoaa
open Go.RowKit
/-- of the first k numbers whether each is in; then false. -/
def bitArr (x k : Nat) : Array Value := ((List.range 64).map fun i => Value.bool (decide (i < k) && x.testBit i)).toArray
theorem bitArr_size (x k : Nat) : (bitArr x k).size = 64 := by simp [bitArr]
theorem bitArr_get (x k i : Nat) (h : i < 64) : (bitArr x k)[i]? = some (.bool (decide (i < k) && x.testBit i)) := by simp [bitArr, h]
theorem bitArr_zero (x : Nat) : bitArr x 0 = Array.replicate 64 (Value.bool false) := by
  apply Array.ext_getElem?
  intro i
  by_cases h : i < 64
  · rw [bitArr_get x 0 i h]; simp [h]
  · rw [Array.getElem?_eq_none (by rw [bitArr_size]; omega), Array.getElem?_eq_none (by simp; omega)]
theorem bitArr_step (x k : Nat) : (bitArr x k).setIfInBounds k (.bool (x.testBit k)) = bitArr x (k + 1) := by
  apply Array.ext_getElem?
  intro i
  by_cases h : i < 64
  · rw [Array.getElem?_setIfInBounds, bitArr_get x (k + 1) i h, bitArr_get x k i h]
    by_cases e : k = i
    · subst e
      simp [bitArr_size, h]
    · have : (decide (i < k + 1)) = decide (i < k) := by rw [decide_eq_decide]; omega
      simp [e, this]
  · rw [Array.getElem?_eq_none (by simp [bitArr_size]; omega), Array.getElem?_eq_none (by rw [bitArr_size]; omega)]
theorem bitArr_one (x k : Nat) : (bitArr x k).all (·.oneCell') = true := by
  rw [Array.all_eq_true]
  intro i hi
  rw [bitArr_size] at hi
  have := bitArr_get x k i hi
  rw [Array.getElem?_eq_getElem (by rw [bitArr_size]; exact hi)] at this
  injection this with this
  rw [this]; rfl
theorem heap_set {w : World} {g i : Nat} {cs : Array Value} {t : TypeId} {fr : Nat × Nat} {v : Value} (h : w.heap[g]? = some (.cells cs t fr)) : (w.setCell ⟨g, i, none⟩ v).heap[g]? = some (.cells (cs.setIfInBounds i v) t fr) := by
  simp [World.setCell, Array.getElem?_modify, h]
theorem frozen_of_row {w : World} {g i : Nat} {cs : Array Value} {t : TypeId} (h : w.heap[g]? = some (.cells cs t (0, 0))) : w.frozen? ⟨g, i, none⟩ = false := by simp [World.frozen?, h]
def hv (x k : Nat) : Nat := x / pw k
theorem hv_half (x k : Nat) : ((hv x k : Nat) : Int) / 2 = ((hv x (k + 1) : Nat) : Int) := by
  have : hv x (k + 1) = hv x k / 2 := by
    unfold hv pw
    rw [Nat.pow_succ, Nat.div_div_eq_div_mul]
  rw [this]; rfl
theorem hv_test (x k : Nat) : ((((hv x k : Nat) : Int) % 2 : Int) == 1) = x.testBit k := by
  rw [← test_div x k]
  unfold hv
  rw [Int.natCast_ediv]
theorem hv_lt {x : Nat} (k : Nat) (h : x < 18446744073709551616) : hv x k < 18446744073709551616 := Nat.lt_of_le_of_lt (Nat.div_le_self _ _) h
theorem hv_zero (x : Nat) : hv x 0 = x := by simp [hv, pw]
theorem setRow_below {B g : Nat} {a w : World} {cs : Array Value} (h : Below B a w) (hg : B ≤ g) : Below B a (w.setRow g cs) :=
  ⟨h.os, h.tape, h.output, by simpa [World.setRow] using h.size, fun i hi => (setRow_other _ _ _ _ (by omega)).trans (h.block i hi)⟩
end Go.Proofs.Ytaonepbongbhoaa
namespace Go.Proofs.Ytaonepbongbhoaa
open Go.RowKit
/-- a graph as the program holds it. -/
def matA (m : Mm.Gr) : Array Value := ((List.range 32).map fun i => Value.int .u64 ((m i : Nat) : Int)).toArray
theorem matA_size (m : Mm.Gr) : (matA m).size = 32 := by simp [matA]
theorem matA_get (m : Mm.Gr) (i : Nat) (h : i < 32) : (matA m)[i]? = some (.int .u64 (m i : Nat)) := by simp [matA, h]
theorem matA_ext {m n : Mm.Gr} (h : ∀ i, i < 32 → m i = n i) : matA m = matA n := by
  apply Array.ext_getElem?
  intro i
  by_cases hi : i < 32
  · rw [matA_get m i hi, matA_get n i hi, h i hi]
  · rw [Array.getElem?_eq_none (by rw [matA_size]; omega), Array.getElem?_eq_none (by rw [matA_size]; omega)]
theorem matA_zero : matA (fun _ => 0) = Array.replicate 32 (Value.int .u64 0) := by
  apply Array.ext_getElem?
  intro i
  by_cases h : i < 32
  · rw [matA_get _ i h]; simp [h]
  · rw [Array.getElem?_eq_none (by rw [matA_size]; omega), Array.getElem?_eq_none (by simp; omega)]
theorem matA_set (m : Mm.Gr) (k v : Nat) : (matA m).setIfInBounds k (.int .u64 (v : Nat)) = matA (fun i => if i = k then v else m i) := by
  apply Array.ext_getElem?
  intro i
  by_cases h : i < 32
  · rw [Array.getElem?_setIfInBounds, matA_get (fun i => if i = k then v else m i) i h, matA_get m i h]
    by_cases e : k = i
    · subst e
      simp [matA_size, h]
    · have : ¬ i = k := fun x => e x.symm
      simp [e, this]
  · rw [Array.getElem?_eq_none (by simp [matA_size]; omega), Array.getElem?_eq_none (by rw [matA_size]; omega)]
theorem matA_one (m : Mm.Gr) : (matA m).all (·.oneCell') = true := by
  rw [Array.all_eq_true]
  intro i hi
  rw [matA_size] at hi
  have := matA_get m i hi
  rw [Array.getElem?_eq_getElem (by rw [matA_size]; exact hi)] at this
  injection this with this
  rw [this]; rfl
theorem mat_info : (Try.prog.info? 36).map (·.size) = some 32 := by kernel_rfl
theorem matInfo (m : Mm.Gr) : (Try.prog.info? 36).map (·.size) = some (matA m).size := by rw [matA_size]; exact mat_info
/-- the block g holds the graph m. -/
def MatAt (w : World) (g : Nat) (m : Mm.Gr) (t : Nat) : Prop := w.heap[g]? = some (.cells (matA m) t (0, 0))
theorem MatAt.cell {w : World} {g : Nat} {m : Mm.Gr} {t : Nat} (h : MatAt w g m t) (i : Nat) (hi : i < 32) : w.cell? ⟨g, i, none⟩ = some (.int .u64 (m i : Nat)) := by
  rw [cell_of_row _ _ _ _ _ _ h, matA_get m i hi]
theorem MatAt.frozen {w : World} {g : Nat} {m : Mm.Gr} {t : Nat} (h : MatAt w g m t) (i : Nat) : w.frozen? ⟨g, i, none⟩ = false := frozen_of_row h
theorem MatAt.lt {w : World} {g : Nat} {m : Mm.Gr} {t : Nat} (h : MatAt w g m t) : g < w.heap.size := (Array.getElem?_eq_some_iff.1 h).1
theorem MatAt.below {w w' : World} {g : Nat} {m : Mm.Gr} {t : Nat} (h : MatAt w g m t) (hb : Below w.heap.size w w') : MatAt w' g m t := (hb.block g h.lt).trans h
theorem MatAt.alloc {w : World} {g : Nat} {m : Mm.Gr} {t : Nat} (h : MatAt w g m t) (o : Obj) : MatAt (w.alloc o) g m t := (Below.heap_alloc w o g h.lt).trans h
theorem MatAt.setRow {w : World} {g k : Nat} {m : Mm.Gr} {t : Nat} (h : MatAt w g m t) (cs : Array Value) (hk : g ≠ k) : MatAt (w.setRow k cs) g m t := (setRow_other w k g cs hk).trans h
theorem MatAt.drew {w : World} {g : Nat} {m : Mm.Gr} {t : Nat} (h : MatAt w g m t) : MatAt w.drew g m t := h
theorem MatAt.setCell {w : World} {g : Nat} {m : Mm.Gr} {t : Nat} (h : MatAt w g m t) (a : Addr) (v : Value) (hk : g ≠ a.block) : MatAt (w.setCell a v) g m t := (Below.heap_setCell w a v g hk).trans h
theorem matAt_new (w : World) (m : Mm.Gr) (t : Nat) : MatAt (w.alloc (.cells (matA m) t)) w.heap.size m t := heap_alloc_new w _
theorem matAt_put {w : World} {g : Nat} {m n : Mm.Gr} {t : Nat} (h : MatAt w g m t) : MatAt (w.setRow g (matA n)) g n t := setRow_heap _ _ _ _ _ _ h
theorem matAt_cell {w : World} {g k v : Nat} {m : Mm.Gr} {t : Nat} (h : MatAt w g m t) : MatAt (w.setCell ⟨g, k, none⟩ (.int .u64 (v : Nat))) g (fun i => if i = k then v else m i) t := by
  unfold MatAt
  rw [heap_set h, matA_set]
theorem MatAt.ext {w : World} {g : Nat} {m n : Mm.Gr} {t : Nat} (h : MatAt w g m t) (e : ∀ i, i < 32 → m i = n i) : MatAt w g n t := by
  unfold MatAt; rw [← matA_ext e]; exact h

theorem node_has (a : Int) : Sm.has 4294967295 a = (decide (0 ≤ a) && decide (a < 32)) := by
  by_cases h0 : 0 ≤ a
  · rw [Sm.has_eq a h0 (by decide), show (4294967295 : Nat) = 2 ^ 32 - 1 from rfl, Nat.testBit_two_pow_sub_one]
    rw [Bool.eq_iff_iff]; simp; omega
  · rw [Sm.has_neg (by omega)]; simp; omega
set_option maxHeartbeats 400000 in
theorem node_any (a : Int) (w : World) (h0 : -9223372036854775808 ≤ a) (h1 : a ≤ 9223372036854775807) :
    Calls Try.prog 36 #[.int .i64 a] w fun e w' => e = .returned (.bool (decide (0 ≤ a) && decide (a < 32))) ∧ w = w' := by
  have H := Lib.hid (node_has a)
  go_enter Try.func36, Try.ntmps36
  go_wp2_with (go_at_call 32; refine (has_any 4294967295 _ _ (by decide) h0 h1).mono ?_; rintro e w' ⟨rfl, rfl⟩)
  go_ret
  exact ⟨ret_bool H.out, rfl⟩
theorem node_yes (a : Nat) (w : World) (h : a < 32) : Calls Try.prog 36 #[.int .i64 (a : Nat)] w fun e w' => e = .returned (.bool true) ∧ w = w' := by
  have := node_any (a : Nat) w (by omega) (by omega)
  rw [decide_eq_true (by omega : (0 : Int) ≤ (a : Nat)), decide_eq_true (by omega : ((a : Nat) : Int) < 32)] at this
  exact this
def Far (a : Int) : Prop := (-9223372036854775808 ≤ a ∧ a ≤ 9223372036854775807) ∧ (a < 0 ∨ 32 ≤ a)
theorem node_no (a : Int) (w : World) (h : Far a) : Calls Try.prog 36 #[.int .i64 a] w fun e w' => e = .returned (.bool false) ∧ w = w' := by
  have := node_any a w h.1.1 h.1.2
  have e : (decide (0 ≤ a) && decide (a < 32)) = false := by
    have := h.2
    rw [Bool.and_eq_false_iff]; simp; omega
  rw [e] at this
  exact this
theorem low_and {x : Nat} (h : x < 18446744073709551616) : bits .and .u64 (x : Int) 4294967295 = ((x % 4294967296 : Nat) : Int) := by
  rw [show (4294967295 : Int) = ((4294967295 : Nat) : Int) from rfl, bits_and_u64_nat x _ h (by decide)]
  have := Nat.and_two_pow_sub_one_eq_mod x 32
  have e : x &&& 4294967295 = x % 4294967296 := by simpa using this
  rw [e]
theorem outs_of {m : Mm.Gr} {a : Nat} (ha : a < 32) : Mm.outs m a = m a % 4294967296 := by unfold Mm.outs; rw [if_pos ha]
set_option maxHeartbeats 400000 in
theorem outs_in (m : Mm.Gr) (a : Nat) (w : World) (hm : Mm.Ok m) (ha : a < 32) :
    Calls Try.prog 33 #[.agg (matA m), .int .i64 (a : Nat)] w fun e w' => e = .returned (.int .u64 (Mm.outs m a : Nat)) ∧ Below w.heap.size w w' := by
  have hg := matA_get m a ha
  have H := Lib.hid (low_and (hm a ha))
  have H2 := Lib.hid (outs_of (m := m) ha)
  have hma := hm a ha
  go_enter Try.func33, Try.ntmps33
  go_wp2_with (go_at_call 36; refine (node_yes _ _ ha).mono ?_; rintro e w' ⟨rfl, rfl⟩)
  go_ret
  rw [H2.out]
  exact ⟨ret_int H.out, (Below.refl _ _).alloc (Nat.le_refl _) _⟩
set_option maxHeartbeats 400000 in
theorem outs_far (m : Mm.Gr) (a : Int) (w : World) (ha : Far a) :
    Calls Try.prog 33 #[.agg (matA m), .int .i64 a] w fun e w' => e = .returned (.int .u64 0) ∧ Below w.heap.size w w' := by
  go_enter Try.func33, Try.ntmps33
  go_wp2_with (go_at_call 36; refine (node_no _ _ ha).mono ?_; rintro e w' ⟨rfl, rfl⟩)
  go_ret
  exact ⟨rfl, (Below.refl _ _).alloc (Nat.le_refl _) _⟩
/- what comes to a node -/
def insTo (m : Mm.Gr) (a k : Nat) : Nat := Mm.mk (fun j => (m j).testBit a) k
theorem insTo_lt (m : Mm.Gr) (a k : Nat) : insTo m a k < 18446744073709551616 := Mm.mk_lt _ _
theorem insTo_yes {m : Mm.Gr} {a k : Nat} (h : (m k).testBit a = true) : Sm.add (insTo m a k) (k : Nat) = insTo m a (k + 1) := by
  unfold insTo; rw [Mm.mk]; simp [h]
theorem insTo_no {m : Mm.Gr} {a k : Nat} (h : (m k).testBit a = false) : insTo m a k = insTo m a (k + 1) := by
  unfold insTo; rw [Mm.mk]; simp [h]
theorem ins_of {m : Mm.Gr} {a : Nat} (ha : a < 32) : Mm.ins m a = insTo m a 32 := by unfold Mm.ins; rw [if_pos ha]; rfl
theorem has_val (x : Nat) (k : Nat) (b : Bool) (w : World) (hx : x < 18446744073709551616) (hk : k < 64) (h : x.testBit k = b) :
    Calls Try.prog 32 #[.int .u64 x, .int .i64 (k : Nat)] w fun e w' => e = .returned (.bool b) ∧ w = w' := by
  have := has_any x (k : Nat) w hx (by omega) (by omega)
  rw [Sm.has_nat k hx, h] at this
  exact this
theorem with_val (x k y : Nat) (w : World) (hx : x < 18446744073709551616) (hk : k < 64) (h : Sm.add x (k : Nat) = y) :
    Calls Try.prog 37 #[.int .u64 x, .int .i64 (k : Nat)] w fun e w' => e = .returned (.int .u64 (y : Nat)) ∧ w = w' := by
  have := with_any x (k : Nat) w hx (by omega) (by omega)
  rw [h] at this
  exact this
set_option maxHeartbeats 1000000 in
theorem ins_in (m : Mm.Gr) (a : Nat) (w : World) (hm : Mm.Ok m) (ha : a < 32) :
    Calls Try.prog 20 #[.agg (matA m), .int .i64 (a : Nat)] w fun e w' => e = .returned (.int .u64 (Mm.ins m a : Nat)) ∧ Below w.heap.size w w' := by
  have H2 := Lib.hid (ins_of (m := m) ha)
  go_enter Try.func20, Try.ntmps20
  go_wp2_with (go_at_call 36; refine (node_yes _ _ ha).mono ?_; rintro e w' ⟨rfl, rfl⟩)
  go_loop [5, 10] (fun s i => ∃ k : Nat, k ≤ 32 ∧ i = .int .i64 k ∧ s = .int .u64 (insTo m a k : Nat)) (fun _ i => 32 - (intOf i).toNat)
  case atStart => exact ⟨0, Nat.zero_le _, rfl, rfl⟩
  case round =>
    obtain ⟨k, hk, rfl, rfl⟩ := hrel
    by_cases hlt : k < 32
    · have hg := matA_get m k hlt
      have hmk := hm k hlt
      cases ht : (m k).testBit a
      · have HT := Lib.hid ht
        have HN := Lib.hid (insTo_no ht)
        clear ht
        go_wp2_with (go_at_call 32; refine (has_val _ _ _ _ hmk (by omega) HT.out).mono ?_; rintro e w' ⟨rfl, rfl⟩)
        go_round
        case rel => exact ⟨k + 1, by omega, by go_num, by rw [HN.out]⟩
        case measure => simp [intOf]; omega
      · have HT := Lib.hid ht
        have HN := Lib.hid (insTo_yes ht)
        clear ht
        have hq := insTo_lt m a k
        go_wp2_with (first
          | (go_at_call 32; refine (has_val _ _ _ _ hmk (by omega) HT.out).mono ?_; rintro e w' ⟨rfl, rfl⟩)
          | (go_at_call 37; refine (with_val _ _ _ _ hq (by omega) HN.out).mono ?_; rintro e w' ⟨rfl, rfl⟩))
        go_round
        case rel => exact ⟨k + 1, by omega, by go_num, rfl⟩
        case measure => simp [intOf]; omega
    · obtain rfl : k = 32 := by omega
      go_wp2
      go_ret
      rw [H2.out]
      exact ⟨rfl, (Below.refl _ _).alloc (Nat.le_refl _) _⟩
set_option maxHeartbeats 400000 in
theorem ins_far (m : Mm.Gr) (a : Int) (w : World) (ha : Far a) :
    Calls Try.prog 20 #[.agg (matA m), .int .i64 a] w fun e w' => e = .returned (.int .u64 0) ∧ Below w.heap.size w w' := by
  go_enter Try.func20, Try.ntmps20
  go_wp2_with (go_at_call 36; refine (node_no _ _ ha).mono ?_; rintro e w' ⟨rfl, rfl⟩)
  go_ret
  exact ⟨rfl, (Below.refl _ _).alloc (Nat.le_refl _) _⟩
end Go.Proofs.Ytaonepbongbhoaa
namespace Go.Proofs.Ytaonepbongbhoaa
open Go.RowKit
/-- does the graph m have the edge from a to b? -/
def edge (m : Mm.Gr) (a b : Int) : Bool := decide (0 ≤ a) && (decide (0 ≤ b) && (Mm.outs m a.toNat).testBit b.toNat)
theorem edge_in (m : Mm.Gr) (a : Nat) (b : Int) : Sm.has (Mm.outs m a) b = edge m (a : Nat) b := by
  unfold edge
  have h := Mm.outs_lt m a
  by_cases h0 : 0 ≤ b
  · rw [Sm.has_eq b h0 (by omega)]
    simp [h0]
  · rw [Sm.has_neg (by omega)]
    simp [h0]
theorem edge_far (m : Mm.Gr) (a b : Int) (h : Far a) : edge m a b = false := by
  unfold edge
  have := h.2
  by_cases h0 : 0 ≤ a
  · have : Mm.outs m a.toNat = 0 := by unfold Mm.outs; rw [if_neg (by omega)]
    simp [this]
  · simp [h0]
theorem has_zero (i : Int) : Sm.has 0 i = false := by unfold Sm.has; simp
theorem hasI_val (x : Nat) (k : Int) (b : Bool) (w : World) (hx : x < 18446744073709551616) (h0 : -9223372036854775808 ≤ k) (h1 : k ≤ 9223372036854775807) (h : Sm.has x k = b) :
    Calls Try.prog 32 #[.int .u64 x, .int .i64 k] w fun e w' => e = .returned (.bool b) ∧ w = w' := by
  have := has_any x k w hx h0 h1
  rw [h] at this
  exact this
set_option maxHeartbeats 1000000 in
theorem mhas_in (m : Mm.Gr) (a : Nat) (b : Int) (w : World) (hm : Mm.Ok m) (ha : a < 32) (h0 : -9223372036854775808 ≤ b) (h1 : b ≤ 9223372036854775807) :
    Calls Try.prog 13 #[.agg (matA m), .int .i64 (a : Nat), .int .i64 b] w fun e w' => e = .returned (.bool (edge m (a : Nat) b)) ∧ Below w.heap.size w w' := by
  have H := Lib.hid (edge_in m a b)
  have H0 := Lib.hid (matAt_new w m 36)
  have hl := Mm.outs_lt m a
  have hl' : Mm.outs m a < 18446744073709551616 := by omega
  go_enter Try.func13, Try.ntmps13
  go_wp2_with (first
    | (refine wpList_load_row rfl 36 (.tmp 3) rfl w.heap.size rfl 36 (matA m) (0, 0) _ H0.out Try.underlying36 rfl (matInfo m) ?_))
  refine (outs_in m a _ hm ha).mono ?_
  rintro e w1 ⟨rfl, hb1⟩
  go_wp2_with fail
  refine (hasI_val _ _ _ _ hl' h0 h1 H.out).mono ?_
  rintro e w' ⟨rfl, rfl⟩
  go_wp2
  go_ret
  exact ⟨rfl, ((Below.refl _ _).alloc (Nat.le_refl _) _).trans (hb1.mono (by simp))⟩
set_option maxHeartbeats 1000000 in
theorem mhas_far (m : Mm.Gr) (a b : Int) (w : World) (ha : Far a) (h0 : -9223372036854775808 ≤ b) (h1 : b ≤ 9223372036854775807) :
    Calls Try.prog 13 #[.agg (matA m), .int .i64 a, .int .i64 b] w fun e w' => e = .returned (.bool false) ∧ Below w.heap.size w w' := by
  have H := Lib.hid (has_zero b)
  have H0 := Lib.hid (matAt_new w m 36)
  go_enter Try.func13, Try.ntmps13
  go_wp2_with (first
    | (refine wpList_load_row rfl 36 (.tmp 3) rfl w.heap.size rfl 36 (matA m) (0, 0) _ H0.out Try.underlying36 rfl (matInfo m) ?_))
  refine (outs_far m a _ ha).mono ?_
  rintro e w1 ⟨rfl, hb1⟩
  go_wp2_with fail
  refine (hasI_val 0 _ _ _ (by decide) h0 h1 H.out).mono ?_
  rintro e w' ⟨rfl, rfl⟩
  go_wp2
  go_ret
  exact ⟨rfl, ((Below.refl _ _).alloc (Nat.le_refl _) _).trans (hb1.mono (by simp))⟩

/- Put -/
def zeroM : Mm.Gr := fun _ => 0
theorem zero_lit (w : World) (t : Nat) : MatAt (w.alloc (.cells (Array.replicate 32 (Value.int .u64 0)) t)) w.heap.size zeroM t := by
  unfold MatAt zeroM; rw [matA_zero]; exact heap_alloc_new _ _
theorem results_row_tmp {fn : Func} {p u : Tmp} {ty : TypeId} (h : fn.results = #[.cell p ty, .tmp u]) (tmps : Array Value) (w : World) (g : Nat) (t : TypeId) (cs : Array Value) (fr : Nat × Nat) (n : Nat) (el : TypeId) (x : Value)
    (hp : tmps.getD p undef = .pointer (some ⟨g, 0, none⟩)) (hx : tmps.getD u undef = x) (hg : w.heap[g]? = some (.cells cs t fr))
    (hu : Try.prog.underlying ty = some (.array n el)) (hi : (Try.prog.info? ty).map (·.size) = some cs.size) :
    (results fn tmps).run Try.prog w = .ok (.tuple #[.agg cs, x]) w := by
  rw [results_cell_tmp h, hp, hx]
  simp [asAddr, Result.andThen, run_loadVar_row w g t ty cs fr _ hg hu rfl hi]
theorem put_eq {m : Mm.Gr} {a b : Nat} (i : Nat) (_ : i < 32) : (if i = a then Sm.add (m a) (b : Nat) else m i) = Mm.put m a b i := by
  unfold Mm.put
  split
  · rename_i h; rw [h]
  · rfl
set_option maxHeartbeats 1000000 in
set_option maxRecDepth 100000 in
theorem put_yes (m : Mm.Gr) (a b : Nat) (w : World) (hm : Mm.Ok m) (ha : a < 32) (hb : b < 32) (hab : a ≠ b) :
    Calls Try.prog 30 #[.agg (matA m), .int .i64 (a : Nat), .int .i64 (b : Nat)] w fun e w' => e = .returned (.tuple #[.agg (matA (Mm.put m a b)), .bool true]) ∧ Below w.heap.size w w' := by
  have hne : (((a : Nat) : Int) == ((b : Nat) : Int)) = false := by simp; omega
  have hg := matA_get m a ha
  have hma := hm a ha
  have HP := Lib.hid (matA_ext (put_eq (m := m) (a := a) (b := b)))
  have HS := Lib.hid (matA_set m a (Sm.add (m a) (b : Nat)))
  have HI := Lib.hid (matInfo m)
  go_enter Try.func30, Try.ntmps30
  go_wp2_with (first
    | (go_at_call 36; refine (node_yes _ _ (by assumption)).mono ?_; rintro e w' ⟨rfl, rfl⟩)
    | (go_at_call 37; refine (with_val _ _ _ _ hma (by omega) rfl).mono ?_; rintro e w' ⟨rfl, rfl⟩)
    | (refine wpList_load_row rfl 36 (.tmp 3) rfl w.heap.size rfl 36 _ (0, 0) _ (heap_alloc2_old _ _ _) Try.underlying36 rfl (by rw [Array.size_setIfInBounds]; exact HI.out) ?_)
    | (refine wpList_store_row rfl 36 (.tmp 6) (.tmp 29) rfl (w.heap.size + 1) _ rfl rfl 36 _ (heap_alloc2_new _ _ _) (by rw [Array.size_setIfInBounds]; exact HI.out) (by rw [Array.size_setIfInBounds, matA_size]; rfl) (by rw [HS.out]; exact matA_one _) ?_))
  rw [HS.out, HP.out]
  refine bodyPost_ret (results_row_tmp rfl _ _ (w.heap.size + 1) 36 _ (0, 0) _ _ (.bool true) rfl rfl (setRow_heap _ _ _ _ _ _ (heap_alloc2_new _ _ _)) Try.underlying36 (matInfo _)) rfl ⟨rfl, ?_⟩
  exact setRow_below (((Below.refl _ _).alloc (Nat.le_refl _) _).alloc (by simp) _) (by omega)
set_option maxHeartbeats 1000000 in
set_option maxRecDepth 100000 in
theorem put_no1 (m : Mm.Gr) (a b : Int) (w : World) (ha : Far a) :
    Calls Try.prog 30 #[.agg (matA m), .int .i64 a, .int .i64 b] w fun e w' => e = .returned (.tuple #[.agg (matA m), .bool false]) ∧ Below w.heap.size w w' := by
  go_enter Try.func30, Try.ntmps30
  go_wp2_with (first
    | (go_at_call 36; refine (node_no _ _ ha).mono ?_; rintro e w' ⟨rfl, rfl⟩)
    | (refine wpList_load_row rfl 36 (.tmp 3) rfl w.heap.size rfl 36 (matA m) (0, 0) _ (heap_alloc2_old _ _ _) Try.underlying36 rfl (matInfo m) ?_)
    | (refine wpList_store_row rfl 36 (.tmp 6) (.tmp 21) rfl (w.heap.size + 1) (matA m) rfl rfl 36 _ (heap_alloc2_new _ _ _) (matInfo m) (by rw [matA_size]; rfl) (matA_one _) ?_))
  refine bodyPost_ret (results_row_tmp rfl _ _ (w.heap.size + 1) 36 (matA m) (0, 0) _ _ (.bool false) rfl rfl (setRow_heap _ _ _ _ _ _ (heap_alloc2_new _ _ _)) Try.underlying36 (matInfo _)) rfl ⟨rfl, ?_⟩
  exact setRow_below (((Below.refl _ _).alloc (Nat.le_refl _) _).alloc (by simp) _) (by omega)
set_option maxHeartbeats 1000000 in
set_option maxRecDepth 100000 in
theorem put_no2 (m : Mm.Gr) (a : Nat) (b : Int) (w : World) (ha : a < 32) (hb : Far b) :
    Calls Try.prog 30 #[.agg (matA m), .int .i64 (a : Nat), .int .i64 b] w fun e w' => e = .returned (.tuple #[.agg (matA m), .bool false]) ∧ Below w.heap.size w w' := by
  go_enter Try.func30, Try.ntmps30
  go_wp2_with (first
    | (go_at_call_of 36 b; refine (node_no _ _ hb).mono ?_; rintro e w' ⟨rfl, rfl⟩)
    | (go_at_call 36; refine (node_yes _ _ ha).mono ?_; rintro e w' ⟨rfl, rfl⟩)
    | (refine wpList_load_row rfl 36 (.tmp 3) rfl w.heap.size rfl 36 (matA m) (0, 0) _ (heap_alloc2_old _ _ _) Try.underlying36 rfl (matInfo m) ?_)
    | (refine wpList_store_row rfl 36 (.tmp 6) (.tmp 21) rfl (w.heap.size + 1) (matA m) rfl rfl 36 _ (heap_alloc2_new _ _ _) (matInfo m) (by rw [matA_size]; rfl) (matA_one _) ?_))
  refine bodyPost_ret (results_row_tmp rfl _ _ (w.heap.size + 1) 36 (matA m) (0, 0) _ _ (.bool false) rfl rfl (setRow_heap _ _ _ _ _ _ (heap_alloc2_new _ _ _)) Try.underlying36 (matInfo _)) rfl ⟨rfl, ?_⟩
  exact setRow_below (((Below.refl _ _).alloc (Nat.le_refl _) _).alloc (by simp) _) (by omega)
set_option maxHeartbeats 1000000 in
set_option maxRecDepth 100000 in
theorem put_no3 (m : Mm.Gr) (a : Nat) (w : World) (ha : a < 32) :
    Calls Try.prog 30 #[.agg (matA m), .int .i64 (a : Nat), .int .i64 (a : Nat)] w fun e w' => e = .returned (.tuple #[.agg (matA m), .bool false]) ∧ Below w.heap.size w w' := by
  go_enter Try.func30, Try.ntmps30
  go_wp2_with (first
    | (go_at_call 36; refine (node_yes _ _ ha).mono ?_; rintro e w' ⟨rfl, rfl⟩)
    | (refine wpList_load_row rfl 36 (.tmp 3) rfl w.heap.size rfl 36 (matA m) (0, 0) _ (heap_alloc2_old _ _ _) Try.underlying36 rfl (matInfo m) ?_)
    | (refine wpList_store_row rfl 36 (.tmp 6) (.tmp 21) rfl (w.heap.size + 1) (matA m) rfl rfl 36 _ (heap_alloc2_new _ _ _) (matInfo m) (by rw [matA_size]; rfl) (matA_one _) ?_))
  refine bodyPost_ret (results_row_tmp rfl _ _ (w.heap.size + 1) 36 (matA m) (0, 0) _ _ (.bool false) rfl rfl (setRow_heap _ _ _ _ _ _ (heap_alloc2_new _ _ _)) Try.underlying36 (matInfo _)) rfl ⟨rfl, ?_⟩
  exact setRow_below (((Below.refl _ _).alloc (Nat.le_refl _) _).alloc (by simp) _) (by omega)
/- Cut -/
set_option maxHeartbeats 1000000 in
set_option maxRecDepth 100000 in
theorem cut_far (m : Mm.Gr) (a : Int) (w : World) (ha : Far a) :
    Calls Try.prog 22 #[.agg (matA m), .int .i64 a] w fun e w' => e = .returned (.agg (matA m)) ∧ Below w.heap.size w w' := by
  go_enter Try.func22, Try.ntmps22
  go_wp2_with (first
    | (go_at_call 36; refine (node_no _ _ ha).mono ?_; rintro e w' ⟨rfl, rfl⟩)
    | (refine wpList_load_row rfl 36 (.tmp 2) rfl w.heap.size rfl 36 (matA m) (0, 0) _ (heap_alloc2_old _ _ _) Try.underlying36 rfl (matInfo m) ?_)
    | (refine wpList_store_row rfl 36 (.tmp 4) (.tmp 9) rfl (w.heap.size + 1) (matA m) rfl rfl 36 _ (heap_alloc2_new _ _ _) (matInfo m) (by rw [matA_size]; rfl) (matA_one _) ?_))
  refine bodyPost_ret (results_cell_row rfl _ _ (w.heap.size + 1) 36 (matA m) (0, 0) _ rfl (setRow_heap _ _ _ _ _ _ (heap_alloc2_new _ _ _)) Try.underlying36 rfl (matInfo _)) rfl ⟨rfl, ?_⟩
  exact setRow_below (((Below.refl _ _).alloc (Nat.le_refl _) _).alloc (by simp) _) (by omega)
theorem high_and {x : Nat} (h : x < 18446744073709551616) : bits .andNot .u64 (x : Int) 4294967295 = ((x - x % 4294967296 : Nat) : Int) := by
  rw [show (4294967295 : Int) = ((4294967295 : Nat) : Int) from rfl, u64_andNot_nat x _ h (by decide)]
  congr 1
  apply Sm.ext; intro j
  rw [Mm.clr_test, Nat.testBit_and]
  have e : (18446744073709551615 - 4294967295).testBit j = (decide (32 ≤ j) && decide (j < 64)) := by
    have : 18446744073709551615 - 4294967295 = 2 ^ 64 - (4294967295 + 1) := by decide
    rw [this, Nat.testBit_two_pow_sub_succ (by decide), show (4294967295 : Nat) = 2 ^ 32 - 1 from rfl, Nat.testBit_two_pow_sub_one]
    rw [Bool.eq_iff_iff]; simp; omega
  rw [e]
  by_cases hj : j < 64
  · simp [hj]
  · rw [Sm.test_big h (by omega)]; simp
theorem clr_eq {m : Mm.Gr} {a : Nat} (i : Nat) (_ : i < 32) : (if i = a then m a - m a % 4294967296 else m i) = Mm.clr m a i := by
  unfold Mm.clr
  split
  · rename_i h; rw [h]
  · rfl
theorem cutTo_zero (m : Mm.Gr) (a i : Nat) : Mm.clr m a i = Mm.cutTo (Mm.clr m a) a 0 i := by unfold Mm.cutTo; rw [if_neg (by omega)]
theorem cutTo_step (m : Mm.Gr) (a k i : Nat) : (if i = k then Sm.less (Mm.cutTo m a k k) (a : Nat) else Mm.cutTo m a k i) = Mm.cutTo m a (k + 1) i := by
  unfold Mm.cutTo
  by_cases h : i = k
  · subst h; simp
  · by_cases h2 : i < k
    · simp [h, h2, show i < k + 1 from by omega]
    · simp [h, h2, show ¬ i < k + 1 from by omega]
theorem cutTo_all (m : Mm.Gr) (a i : Nat) (h : i < 32) : Mm.cutTo (Mm.clr m a) a 32 i = Mm.cut m a i := by unfold Mm.cutTo Mm.cut; rw [if_pos h]
theorem cutTo_ok {m : Mm.Gr} (a k : Nat) (h : Mm.Ok m) : Mm.Ok (Mm.cutTo m a k) := by
  intro i hi
  unfold Mm.cutTo
  split
  · exact Sm.less_lt _ (h i hi)
  · exact h i hi
theorem less_val (x k y : Nat) (w : World) (hx : x < 18446744073709551616) (hk : k < 64) (h : Sm.less x (k : Nat) = y) :
    Calls Try.prog 38 #[.int .u64 x, .int .i64 (k : Nat)] w fun e w' => e = .returned (.int .u64 (y : Nat)) ∧ w = w' := by
  have := less_any x (k : Nat) w hx (by omega) (by omega)
  rw [h] at this
  exact this
def CutRel (m : Mm.Gr) (a t : Nat) (w : World) (i : Value) (wr : World) : Prop :=
  ∃ k : Nat, k ≤ 32 ∧ i = .int .i64 k ∧ MatAt wr w.heap.size (Mm.cutTo (Mm.clr m a) a k) t ∧ MatAt wr (w.heap.size + 1) zeroM t ∧ Below w.heap.size w wr
set_option maxHeartbeats 1000000 in
set_option maxRecDepth 100000 in
theorem cut_in (m : Mm.Gr) (a : Nat) (w : World) (hm : Mm.Ok m) (ha : a < 32) :
    Calls Try.prog 22 #[.agg (matA m), .int .i64 (a : Nat)] w fun e w' => e = .returned (.agg (matA (Mm.cut m a))) ∧ Below w.heap.size w w' := by
  have hg := matA_get m a ha
  have hma := hm a ha
  have HA := Lib.hid (high_and hma)
  have HO := Lib.hid (Mm.clr_ok a hm)
  go_enter Try.func22, Try.ntmps22
  go_wp2_with (go_at_call 36; refine (node_yes _ _ ha).mono ?_; rintro e w' ⟨rfl, rfl⟩)
  go_loopw [15] (CutRel m a 36 w) (fun i _ => 32 - (intOf i).toNat)
  case atStart =>
    refine ⟨0, by omega, rfl, ?_, ?_, ?_⟩
    · rw [HA.out, matA_set]
      exact MatAt.ext (show MatAt _ _ _ _ from heap_alloc2_old _ _ _) fun i hi => (clr_eq i hi).trans (cutTo_zero m a i)
    · unfold MatAt zeroM; rw [matA_zero]; exact heap_alloc2_new _ _ _
    · exact ((Below.refl _ _).alloc (Nat.le_refl _) _).alloc (by simp) _
  case round =>
    obtain ⟨k, hk, rfl, h0, h1, hb⟩ := hrel
    have H0 := Lib.hid h0
    have H1 := Lib.hid h1
    by_cases hlt : k < 32
    · have hc := h0.cell k hlt
      have hf := h0.frozen k
      have hq := cutTo_ok a k HO.out k hlt
      clear h0 h1
      go_wp2_with (go_at_call 38; refine (less_val _ _ _ _ hq (by omega) rfl).mono ?_; rintro e w' ⟨rfl, rfl⟩)
      refine ⟨⟨k + 1, by omega, by go_num, ?_, ?_, hb.setCell (by simp) _⟩, by simp [intOf]; omega⟩
      · exact (matAt_cell H0.out).ext fun i _ => cutTo_step _ a k i
      · exact H1.out.setCell _ _ (by simp)
    · obtain rfl : k = 32 := by omega
      clear h0 h1
      go_wp2_with (first
        | (refine wpList_load_row rfl 36 (.tmp 2) rfl w.heap.size rfl 36 _ (0, 0) _ H0.out Try.underlying36 rfl (matInfo _) ?_)
        | (refine wpList_store_row rfl 36 (.tmp 4) (.tmp 26) rfl (w.heap.size + 1) _ rfl rfl 36 _ H1.out (matInfo _) (by rw [matA_size, matA_size]) (matA_one _) ?_))
      rw [matA_ext (cutTo_all m a)]
      refine bodyPost_ret (results_cell_row rfl _ _ (w.heap.size + 1) 36 (matA (Mm.cut m a)) (0, 0) _ rfl (setRow_heap _ _ _ _ _ _ H1.out) Try.underlying36 rfl (matInfo _)) rfl ⟨rfl, ?_⟩
      exact setRow_below hb (by omega)
end Go.Proofs.Ytaonepbongbhoaa
namespace Go.Proofs.Ytaonepbongbhoaa
open Go.RowKit
theorem exit_jump_mono {l : Nat} {J J' : Act → World → Prop} {Q : Exit → Act → World → Prop} (h : ∀ a w, J a w → J' a w) : ∀ e a w, Exit.jump l J Q e a w → Exit.jump l J' Q e a w := by
  intro e a w hh
  cases e <;> first | exact hh | exact ⟨hh.1, h _ _ hh.2⟩
theorem wp_scope_jumps3 {P : Program} {a : Act} {w : World} {Q : Exit → Act → World → Prop} {c X : Code} (l : Nat) (J : Act → World → Prop) (μ : Act → World → Nat) (hf : findLabel c l = some (Code.skip.seq X))
    (first : (∀ a w, J a w → X.wp P (Exit.jump l J Q) a w) → c.wp P (Exit.jump l J Q) a w)
    (pass : ∀ a w, J a w → X.wp P (Exit.jump l (fun a' w' => J a' w' ∧ μ a' w' < μ a w) Q) a w) : (Code.scope c).wp P Q a w :=
  wp_scope_jumps l J μ hf (first fun a w h => wp_mono (pass a w h) (exit_jump_mono fun _ _ hh => hh.1)) fun a w h => wp_seq (wp_skip (pass a w h))
end Go.Proofs.Ytaonepbongbhoaa
