/-
  Contracts of the functions of package set, and of the two of math/bits that it calls: each returns what the plain mathematics says, and leaves the world as it was.
-/
import Derived.Test.YtcfdndppkpjleaaProg
import Derived.Test.YtcfdndppkpjleaaSetMath
import Derived.Test.YtcfdndppkpjleaaSetPop
import Derived.WalkKit
import Derived.Laws.Bits64b
import Derived.Laws.BitsAllLaws
import Derived.Shelf.Spec.TrailingZeros
import Derived.Lib.Hide
namespace Go.Proofs.Ytcfdndppkpjleaa
open Go.RowKit

theorem ret_int {k : IntKind} {a b : Int} (h : a = b) : Ending.returned (.int k a) = .returned (.int k b) := by rw [h]
theorem ret_bool {a b : Bool} (h : a = b) : Ending.returned (.bool a) = .returned (.bool b) := by rw [h]
theorem ret_val {a b : Value} (h : a = b) : Ending.returned a = .returned b := by rw [h]

theorem bit_wrap (i : Int) (hn : 0 ≤ i) (hg : i ≤ 63) : IntKind.u64.wrap (2 ^ i.toNat) = (Sm.bit i : Nat) := by
  have h := Sm.bit_lt i
  rw [Sm.bit_in hn hg] at h ⊢
  rw [IntKind.wrap_u64]
  have e : ((2 : Int) ^ i.toNat) = ((2 ^ i.toNat : Nat) : Int) := by simp
  rw [e]; generalize 2 ^ i.toNat = y at *; omega

set_option maxHeartbeats 400000 in
theorem bit_any (i : Int) (w : World) (h0 : -9223372036854775808 ≤ i) (h1 : i ≤ 9223372036854775807) :
    Calls Try.prog 75 #[.int .i64 i] w fun e w' => e = .returned (.int .u64 (Sm.bit i : Nat)) ∧ w = w' := by
  by_cases hn : i < 0
  · have H := Lib.hid (Sm.bit_out (i := i) (.inl hn))
    go_enter Try.func75, Try.ntmps75
    go_wp2
    go_ret
    rw [H.out]; exact ⟨rfl, rfl⟩
  · by_cases hg : 63 < i
    · have H := Lib.hid (Sm.bit_out (i := i) (.inr hg))
      go_enter Try.func75, Try.ntmps75
      go_wp2
      go_ret
      rw [H.out]; exact ⟨rfl, rfl⟩
    · have H := Lib.hid (bit_wrap i (by omega) (by omega))
      have hn' : 0 ≤ i := by omega
      go_enter Try.func75, Try.ntmps75
      go_wp2
      go_ret
      exact ⟨ret_int H.out, rfl⟩

theorem has_key (x : Nat) (i : Int) (h : x < 18446744073709551616) : (bits .and .u64 (x : Int) (Sm.bit i : Nat) != 0) = Sm.has x i := by
  rw [bits_and_u64_nat x _ h (Sm.bit_lt i), Sm.has_and, Bool.eq_iff_iff]
  simp
theorem add_key (x : Nat) (i : Int) (h : x < 18446744073709551616) : bits .or .u64 (x : Int) (Sm.bit i : Nat) = (Sm.add x i : Nat) := by
  rw [bits_or_u64_nat x _ h (Sm.bit_lt i)]; rfl
theorem less_key (x : Nat) (i : Int) (h : x < 18446744073709551616) : bits .andNot .u64 (x : Int) (Sm.bit i : Nat) = (Sm.less x i : Nat) := by
  rw [u64_andNot_nat x _ h (Sm.bit_lt i)]; rfl

set_option maxHeartbeats 400000 in
theorem has_any (x : Nat) (i : Int) (w : World) (hx : x < 18446744073709551616) (h0 : -9223372036854775808 ≤ i) (h1 : i ≤ 9223372036854775807) :
    Calls Try.prog 74 #[.int .u64 x, .int .i64 i] w fun e w' => e = .returned (.bool (Sm.has x i)) ∧ w = w' := by
  have H := Lib.hid (has_key x i hx)
  go_enter Try.func74, Try.ntmps74
  go_wp2_with (go_at_call 75; refine (bit_any _ _ h0 h1).mono ?_; rintro e w' ⟨rfl, rfl⟩)
  go_ret
  exact ⟨ret_bool H.out, rfl⟩
set_option maxHeartbeats 400000 in
theorem with_any (x : Nat) (i : Int) (w : World) (hx : x < 18446744073709551616) (h0 : -9223372036854775808 ≤ i) (h1 : i ≤ 9223372036854775807) :
    Calls Try.prog 60 #[.int .u64 x, .int .i64 i] w fun e w' => e = .returned (.int .u64 (Sm.add x i : Nat)) ∧ w = w' := by
  have H := Lib.hid (add_key x i hx)
  go_enter Try.func60, Try.ntmps60
  go_wp2_with (go_at_call 75; refine (bit_any _ _ h0 h1).mono ?_; rintro e w' ⟨rfl, rfl⟩)
  go_ret
  exact ⟨ret_int H.out, rfl⟩
/- how many -/
theorem k1 (x : Nat) (hx : x < 18446744073709551616) : IntKind.u64.wrap (bits .and .u64 ((x : Int) / 2) 6148914691236517205 + bits .and .u64 (x : Int) 6148914691236517205) = (Sm.q1 8 x : Nat) := by
  have h := Sm.q1_lt x
  rw [show ((x : Int) / 2) = ((x / 2 : Nat) : Int) from rfl, show (6148914691236517205 : Int) = ((6148914691236517205 : Nat) : Int) from rfl, bits_and_u64_nat _ _ (by omega) (by decide), bits_and_u64_nat _ _ hx (by decide), IntKind.wrap_u64]
  unfold Sm.q1 at h ⊢
  rw [Sm.m5_8] at h ⊢
  omega
theorem k2 (x : Nat) : IntKind.u64.wrap (bits .and .u64 (((Sm.q1 8 x : Nat) : Int) / 4) 3689348814741910323 + bits .and .u64 ((Sm.q1 8 x : Nat) : Int) 3689348814741910323) = (Sm.t12 8 x : Nat) := by
  have h := Sm.q1_lt x
  have h2 := Sm.q2_lt (Sm.q1 8 x)
  show _ = ((Sm.q2 8 (Sm.q1 8 x) : Nat) : Int)
  generalize Sm.q1 8 x = y at *
  rw [show ((y : Int) / 4) = ((y / 4 : Nat) : Int) from rfl, show (3689348814741910323 : Int) = ((3689348814741910323 : Nat) : Int) from rfl, bits_and_u64_nat _ _ (by omega) (by decide), bits_and_u64_nat _ _ h (by decide), IntKind.wrap_u64]
  unfold Sm.q2 at h2 ⊢
  rw [Sm.m3_8] at h2 ⊢
  omega
theorem t12_lt (x : Nat) : Sm.t12 8 x < 9223372036854775808 := Sm.q2_lt _
theorem k3 (x : Nat) : bits .and .u64 (IntKind.u64.wrap (((Sm.t12 8 x : Nat) : Int) / 16 + ((Sm.t12 8 x : Nat) : Int))) 1085102592571150095 = (Sm.t123 8 x : Nat) := by
  have h := t12_lt x
  show _ = ((Sm.q3 8 (Sm.t12 8 x) : Nat) : Int)
  generalize Sm.t12 8 x = y at *
  have e : IntKind.u64.wrap ((y : Int) / 16 + (y : Int)) = ((y / 16 + y : Nat) : Int) := by rw [IntKind.wrap_u64]; omega
  rw [e, show (1085102592571150095 : Int) = ((1085102592571150095 : Nat) : Int) from rfl, bits_and_u64_nat _ _ (by omega) (by decide)]
  unfold Sm.q3
  rw [Sm.mF_8]
theorem k4 (x : Nat) : IntKind.u64.wrap (((Sm.t123 8 x : Nat) : Int) + ((Sm.t123 8 x : Nat) : Int) / 256) = (Sm.z1 x : Nat) := by
  have h := Sm.pop x
  rw [IntKind.wrap_u64]; unfold Sm.z1 at *; omega
theorem k5 (x : Nat) : IntKind.u64.wrap (((Sm.z1 x : Nat) : Int) + ((Sm.z1 x : Nat) : Int) / 65536) = (Sm.z2 x : Nat) := by
  have h := Sm.pop x
  rw [IntKind.wrap_u64]; unfold Sm.z2 at *; omega
theorem k6 (x : Nat) : IntKind.u64.wrap (((Sm.z2 x : Nat) : Int) + ((Sm.z2 x : Nat) : Int) / 4294967296) = (Sm.z3 x : Nat) := by
  have h := Sm.pop x
  rw [IntKind.wrap_u64]; unfold Sm.z3 at *; omega
theorem k7 (x : Nat) : bits .and .i64 (wrap64 ((Sm.z3 x : Nat) : Int)) 127 = (Sm.count x : Nat) := by
  obtain ⟨_, _, _, h, hc⟩ := Sm.pop x
  have e : wrap64 ((Sm.z3 x : Nat) : Int) = ((Sm.z3 x : Nat) : Int) := by unfold wrap64; omega
  rw [e]
  have := bits_mask .i64 63 (by decide) (fun n h0 h1 => by rw [IntKind.wrap_i64]; omega) 7 (by decide) ((Sm.z3 x : Nat) : Int) (by omega) (by omega)
  have e2 : bits .and .i64 ((Sm.z3 x : Nat) : Int) 127 = ((Sm.z3 x : Nat) : Int) % 128 := this
  rw [e2]; omega
/- the least one -/
def TabAt (w : World) : Prop := ∀ j, j < 64 → w.cell? ⟨0, j, none⟩ = some (.int .u8 (Lib.deBruijn64tab.getD j 0))
end Go.Proofs.Ytcfdndppkpjleaa
