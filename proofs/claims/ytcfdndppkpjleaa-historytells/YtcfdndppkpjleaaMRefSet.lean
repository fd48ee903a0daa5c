/-
  Contracts of the document's own answers for sets: each returns what the plain mathematics says.
-/
import Derived.Test.YtcfdndppkpjleaaSetWalks
import Derived.Laws.Rows
namespace Go.Proofs.Ytcfdndppkpjleaa
open Go.RowKit

theorem pow_lt64 {k : Nat} (h : k ≤ 63) : (2 : Nat) ^ k < 18446744073709551616 := by
  have : (2 : Nat) ^ k < 2 ^ 64 := Nat.pow_lt_pow_right (by decide) (by omega)
  simpa using this
theorem pow_step {k : Nat} (h : k < 63) : IntKind.u64.wrap (((2 ^ k : Nat) : Int) * 2) = ((2 ^ (k + 1) : Nat) : Int) := by
  have := pow_lt64 (k := k + 1) (by omega)
  rw [IntKind.wrap_u64]
  have e : (2 : Nat) ^ (k + 1) = 2 ^ k * 2 := Nat.pow_succ ..
  rw [e] at this ⊢
  generalize 2 ^ k = y at *
  omega
def pw (k : Nat) : Nat := 2 ^ k
set_option maxHeartbeats 400000 in
theorem power_any (n : Nat) (w : World) (h : n ≤ 63) :
    Calls Try.prog 49 #[.int .i64 (n : Nat)] w fun e w' => e = .returned (.int .u64 (pw n : Nat)) ∧ w = w' := by
  go_enter Try.func49, Try.ntmps49
  go_wp2
  go_loop [3, 4] (fun p i => ∃ k : Nat, k ≤ n ∧ i = .int .i64 k ∧ p = .int .u64 (pw k : Nat)) (fun _ i => n - (intOf i).toNat)
  case atStart => exact ⟨0, Nat.zero_le _, rfl, rfl⟩
  case round =>
    obtain ⟨k, hk, rfl, rfl⟩ := hrel
    by_cases hlt : k < n
    · have hs : IntKind.u64.wrap ((pw k : Nat) * 2 : Int) = (pw (k + 1) : Nat) := pow_step (by omega)
      go_wp2
      go_round
      case rel => exact ⟨k + 1, by omega, by go_num, rfl⟩
      case measure => simp [intOf]; omega
    · obtain rfl : k = n := by omega
      go_wp2
      go_ret
      exact ⟨rfl, rfl⟩
theorem test_div (x k : Nat) : ((((x : Nat) : Int) / ((pw k : Nat) : Int) % 2 : Int) == 1) = x.testBit k := by
  rw [Nat.testBit_eq_decide_div_mod_eq, Bool.eq_iff_iff]
  unfold pw
  generalize 2 ^ k = y
  have e : ((x : Int) / (y : Int) % 2) = ((x / y % 2 : Nat) : Int) := by rw [Int.natCast_emod, Int.natCast_ediv]; rfl
  rw [e]
  simp
  omega
theorem test_tmod (x k : Nat) (hx : x < 18446744073709551616) : ((IntKind.u64.wrap (((x : Nat) : Int) / ((pw k : Nat) : Int))).tmod 2 == 1) = x.testBit k := by
  have e : ((x : Int) / ((pw k : Nat) : Int)) = ((x / pw k : Nat) : Int) := by rw [Int.natCast_ediv]
  have hle : x / pw k ≤ x := Nat.div_le_self _ _
  have hd := test_div x k
  rw [e] at hd ⊢
  generalize x / pw k = q at *
  have e2 : IntKind.u64.wrap (q : Int) = (q : Int) := by rw [IntKind.wrap_u64]; omega
  rw [e2, Int.tmod_eq_emod_of_nonneg (by omega)]
  exact hd
theorem pw_ne (k : Nat) : ((((pw k : Nat) : Int)) == 0) = false := by
  have : 0 < pw k := Nat.pow_pos (by decide)
  simp; omega
theorem pw_pos (k : Nat) : 0 < pw k := Nat.pow_pos (by decide)
set_option maxHeartbeats 400000 in
theorem rhas_any (x : Nat) (i : Int) (w : World) (hx : x < 18446744073709551616) (h0 : -9223372036854775808 ≤ i) (h1 : i ≤ 9223372036854775807) :
    Calls Try.prog 29 #[.int .u64 x, .int .i64 i] w fun e w' => e = .returned (.bool (Sm.has x i)) ∧ w = w' := by
  by_cases hn : 0 ≤ i
  · by_cases hg : i < 64
    · obtain ⟨k, rfl⟩ := Int.eq_ofNat_of_zero_le hn
      have H := Lib.hid (test_tmod x k hx)
      have H2 := Lib.hid (Sm.has_nat k hx)
      have hp := pw_pos k
      have hpn := pw_ne k
      go_enter Try.func29, Try.ntmps29
      go_wp2_with (go_at_call 49; refine (power_any _ _ (by omega)).mono ?_; rintro e w' ⟨rfl, rfl⟩)
      go_ret
      rw [H2.out]
      exact ⟨ret_bool H.out, rfl⟩
    · have hd : decide (i < 64) = false := by simp; omega
      have H := Lib.hid (show Sm.has x i = false by rw [Sm.has_eq i hn hx, Sm.test_big hx (by omega)])
      go_enter Try.func29, Try.ntmps29
      go_wp2
      go_ret
      rw [H.out]
      exact ⟨rfl, rfl⟩
  · have hd : decide (0 ≤ i) = false := by simp; omega
    have H := Lib.hid (show Sm.has x i = false from Sm.has_neg (by omega))
    go_enter Try.func29, Try.ntmps29
    go_wp2
    go_ret
    rw [H.out]
    exact ⟨rfl, rfl⟩
theorem or_free {x k : Nat} (h : x.testBit k = false) : x ||| 2 ^ k = x + 2 ^ k := by
  have e : x = (x / 2 ^ (k + 1)) * 2 ^ (k + 1) + x % 2 ^ k := by
    have h1 : x % 2 ^ (k + 1) = x % 2 ^ k := by
      rw [Nat.testBit_eq_decide_div_mod_eq] at h
      have h2 : x / 2 ^ k % 2 = 0 := by
        have := of_decide_eq_false h
        omega
      rw [Nat.pow_succ, Nat.mod_mul, h2]
      simp
    have := Nat.div_add_mod x (2 ^ (k + 1))
    rw [h1, Nat.mul_comm] at this
    exact this.symm
  apply Nat.eq_of_testBit_eq
  intro j
  rw [Nat.testBit_or, Nat.testBit_two_pow]
  have hm : x % 2 ^ k < 2 ^ k := Nat.mod_lt _ (Nat.pow_pos (by decide))
  have e2 : x + 2 ^ k = 2 ^ (k + 1) * (x / 2 ^ (k + 1)) + (2 ^ k + x % 2 ^ k) := by
    rw [Nat.mul_comm (2 ^ (k + 1))]
    omega
  have e3 : x = 2 ^ (k + 1) * (x / 2 ^ (k + 1)) + x % 2 ^ k := by rw [Nat.mul_comm]; exact e
  have hlt : 2 ^ k + x % 2 ^ k < 2 ^ (k + 1) := by rw [Nat.pow_succ]; omega
  rw [e2, Nat.testBit_two_pow_mul_add _ hlt]
  conv => lhs; lhs; rw [e3, Nat.testBit_two_pow_mul_add _ (Nat.lt_trans hm (Nat.pow_lt_pow_right (by decide) (by omega)))]
  by_cases hj : j < k + 1
  · simp only [hj, if_true]
    by_cases hjk : k = j
    · subst hjk
      rw [Nat.testBit_two_pow_add_eq, Nat.testBit_lt_two_pow hm]
      simp
    · rw [Nat.testBit_two_pow_add_gt (by omega)]
      simp [hjk]
  · simp only [hj, if_false]
    have : ¬ k = j := by omega
    simp [this]
theorem add_not {x k : Nat} (hk : k ≤ 63) (h : x.testBit k = false) : Sm.add x (k : Nat) = x + pw k := by
  unfold Sm.add
  rw [Sm.bit_in (by omega) (by omega), Int.toNat_natCast]
  exact or_free h
theorem less_yes {x k : Nat} (hx : x < 18446744073709551616) (hk : k ≤ 63) (h : x.testBit k = true) : Sm.less x (k : Nat) + pw k = x := by
  have h1 : (Sm.less x (k : Nat)).testBit k = false := by
    rw [Sm.less_test _ _ hx, decide_eq_true (by omega)]; simp
  have h2 := add_not hk h1
  rw [← h2]
  apply Sm.ext; intro j
  rw [Sm.add_test, Sm.less_test _ _ hx]
  by_cases e : j = k
  · subst e
    rw [decide_eq_true (by omega : (0 ≤ ((j : Nat) : Int) ∧ ((j : Nat) : Int) ≤ 63 ∧ ((j : Nat) : Int) = ((j : Nat) : Int)))]; simp [h]
  · rw [decide_eq_false (by omega : ¬ (0 ≤ ((k : Nat) : Int) ∧ ((k : Nat) : Int) ≤ 63 ∧ ((j : Nat) : Int) = ((k : Nat) : Int)))]; simp
theorem rhas_val (x : Nat) (i : Int) (b : Bool) (w : World) (hx : x < 18446744073709551616) (h0 : -9223372036854775808 ≤ i) (h1 : i ≤ 9223372036854775807) (h : Sm.has x i = b) :
    Calls Try.prog 29 #[.int .u64 x, .int .i64 i] w fun e w' => e = .returned (.bool b) ∧ w = w' := by
  have := rhas_any x i w hx h0 h1
  rw [h] at this
  exact this
set_option maxHeartbeats 400000 in
theorem rwith_any (x : Nat) (i : Int) (w : World) (hx : x < 18446744073709551616) (h0 : -9223372036854775808 ≤ i) (h1 : i ≤ 9223372036854775807) :
    Calls Try.prog 64 #[.int .u64 x, .int .i64 i] w fun e w' => e = .returned (.int .u64 (Sm.add x i : Nat)) ∧ w = w' := by
  by_cases hn : i < 0
  · have H := Lib.hid (show Sm.add x i = x by unfold Sm.add; rw [Sm.bit_out (.inl hn), Nat.or_zero])
    go_enter Try.func64, Try.ntmps64
    go_wp2
    go_ret
    rw [H.out]
    exact ⟨rfl, rfl⟩
  · have hd1 : decide (i < 0) = false := by simp; omega
    by_cases hg : 63 < i
    · have H := Lib.hid (show Sm.add x i = x by unfold Sm.add; rw [Sm.bit_out (.inr hg), Nat.or_zero])
      go_enter Try.func64, Try.ntmps64
      go_wp2
      go_ret
      rw [H.out]
      exact ⟨rfl, rfl⟩
    · have hd2 : decide (63 < i) = false := by simp; omega
      obtain ⟨k, rfl⟩ := Int.eq_ofNat_of_zero_le (by omega : 0 ≤ i)
      cases hb : x.testBit k
      · have H := Lib.hid (add_not (by omega) hb)
        have hh := Lib.hid (show Sm.has x (k : Nat) = false by rw [Sm.has_nat k hx, hb])
        have hlt := Sm.add_lt (k : Nat) hx
        have hle : x + pw k < 18446744073709551616 := by rw [← H.out]; exact hlt
        have hw : IntKind.u64.wrap ((x : Int) + (pw k : Nat)) = ((x + pw k : Nat) : Int) := by rw [IntKind.wrap_u64]; omega
        have HW := Lib.hid hw
        clear hb hlt hle hw
        go_enter Try.func64, Try.ntmps64
        go_wp2_with (first
          | (go_at_call 29; refine (rhas_val _ _ _ _ hx h0 h1 hh.out).mono ?_; rintro e w' ⟨rfl, rfl⟩)
          | (go_at_call 49; refine (power_any _ _ (by omega)).mono ?_; rintro e w' ⟨rfl, rfl⟩))
        go_ret
        rw [H.out]
        exact ⟨ret_int HW.out, rfl⟩
      · have H := Lib.hid (show Sm.add x (k : Nat) = x by
          apply Sm.ext; intro j
          rw [Sm.add_test]
          by_cases e : j = k
          · subst e; simp [hb]
          · rw [decide_eq_false (by omega : ¬ (0 ≤ ((k : Nat) : Int) ∧ ((k : Nat) : Int) ≤ 63 ∧ ((j : Nat) : Int) = ((k : Nat) : Int)))]; simp)
        have hh := Lib.hid (show Sm.has x (k : Nat) = true by rw [Sm.has_nat k hx, hb])
        clear hb
        go_enter Try.func64, Try.ntmps64
        go_wp2_with (go_at_call 29; refine (rhas_val _ _ _ _ hx h0 h1 hh.out).mono ?_; rintro e w' ⟨rfl, rfl⟩)
        go_ret
        rw [H.out]
        exact ⟨rfl, rfl⟩
end Go.Proofs.Ytcfdndppkpjleaa
