/-
  The walk of SetApart: for every set and every number it answers true; nothing that was there is changed.
-/
import Derived.Test.YtkbljbfoidfagaaDoorSetAlive
namespace Go.Proofs.YtkbljbfoidfagaaDoor
open Go.RowKit
theorem has_add_other_any (x : Nat) (i k : Int) (w : World) (hx : x < 18446744073709551616) (h : k ≠ i) (h0 : -9223372036854775808 ≤ k) (h1 : k ≤ 9223372036854775807) :
    Calls Tryd.prog 9 #[.int .u64 (Sm.add x i : Nat), .int .i64 k] w fun e w' => e = .returned (.bool (Sm.has x k)) ∧ w = w' := by
  have := has_any (Sm.add x i) k w (Sm.add_lt i hx) h0 h1
  rw [Sm.has_add_other x i k hx h] at this
  exact this
theorem has_less_other_any (x : Nat) (i k : Int) (w : World) (hx : x < 18446744073709551616) (h : k ≠ i) (h0 : -9223372036854775808 ≤ k) (h1 : k ≤ 9223372036854775807) :
    Calls Tryd.prog 9 #[.int .u64 (Sm.less x i : Nat), .int .i64 k] w fun e w' => e = .returned (.bool (Sm.has x k)) ∧ w = w' := by
  have := has_any (Sm.less x i) k w (Sm.less_lt i hx) h0 h1
  rw [Sm.has_less_other x i k hx h] at this
  exact this
theorem has_add_same_any (x : Nat) (i : Int) (w : World) (b : Bool) (hx : x < 18446744073709551616) (h0 : -9223372036854775808 ≤ i) (h1 : i ≤ 9223372036854775807) (hb : (decide (0 ≤ i) && decide (i < 64)) = b) :
    Calls Tryd.prog 9 #[.int .u64 (Sm.add x i : Nat), .int .i64 i] w fun e w' => e = .returned (.bool b) ∧ w = w' := by
  have := has_any (Sm.add x i) i w (Sm.add_lt i hx) h0 h1
  rw [Sm.has_add_same x i hx, hb] at this
  exact this
theorem has_less_same_any (x : Nat) (i : Int) (w : World) (hx : x < 18446744073709551616) (h0 : -9223372036854775808 ≤ i) (h1 : i ≤ 9223372036854775807) :
    Calls Tryd.prog 9 #[.int .u64 (Sm.less x i : Nat), .int .i64 i] w fun e w' => e = .returned (.bool false) ∧ w = w' := by
  have := has_any (Sm.less x i) i w (Sm.less_lt i hx) h0 h1
  rw [Sm.has_less_same x i hx] at this
  exact this
set_option maxHeartbeats 1000000 in
set_option maxRecDepth 100000 in
theorem setApart_any (x : Nat) (i : Int) (w : World) (hx : x < 18446744073709551616) (h0 : -9223372036854775808 ≤ i) (h1 : i ≤ 9223372036854775807) (hT : TabAt w) :
    Calls Tryd.prog 5 #[.int .u64 x, .int .i64 i] w fun e w' => e = .returned (.bool true) ∧ Below w.heap.size w w' := by
  have HT := Lib.hid hT
  clear hT
  go_enter Tryd.func5, Tryd.ntmps5
  go_wp2_with (go_at_call 8; refine (alive_any _ HT.out).mono ?_; rintro e w1 ⟨rfl, hb⟩)
  go_loop [6] (fun s => ∃ k : Int, -1 ≤ k ∧ k ≤ 65 ∧ s = .int .i64 k) (fun s => (65 - intOf s).toNat)
  case atStart => exact ⟨-1, by omega, by omega, rfl⟩
  case round =>
    obtain ⟨k, hk0, hk1, rfl⟩ := hrel
    by_cases hlt : k < 65
    · by_cases hki : k = i
      · have hd : (k != i) = false := by simp [hki]
        clear hki
        go_wp2
        go_round
        case rel => exact ⟨k + 1, by omega, by omega, rfl⟩
        case measure => simp [intOf]; omega
      · have hd : (k != i) = true := by simp [hki]
        go_wp2_with fail
        refine (with_any _ _ _ hx h0 h1).mono ?_
        rintro e w' ⟨rfl, rfl⟩
        go_wp2_with fail
        refine (has_add_other_any _ _ _ _ hx hki (by omega) (by omega)).mono ?_
        rintro e w' ⟨rfl, rfl⟩
        go_wp2_with fail
        refine (has_any _ _ _ hx (by omega) (by omega)).mono ?_
        rintro e w' ⟨rfl, rfl⟩
        go_wp2_with fail
        refine (less_any _ _ _ hx h0 h1).mono ?_
        rintro e w' ⟨rfl, rfl⟩
        go_wp2_with fail
        refine (has_less_other_any _ _ _ _ hx hki (by omega) (by omega)).mono ?_
        rintro e w' ⟨rfl, rfl⟩
        go_wp2_with fail
        refine (has_any _ _ _ hx (by omega) (by omega)).mono ?_
        rintro e w' ⟨rfl, rfl⟩
        go_wp2_with fail
        go_round
        case rel => exact ⟨k + 1, by omega, by omega, rfl⟩
        case measure => simp [intOf]; omega
    · have H1 : ∀ b, (decide (0 ≤ i) && decide (i < 64)) = b → ∀ W, Calls Tryd.prog 9 #[.int .u64 (Sm.add x i : Nat), .int .i64 i] W fun e w' => e = .returned (.bool b) ∧ W = w' :=
        fun b hb W => has_add_same_any x i W b hx h0 h1 hb
      by_cases hi : 0 ≤ i
      · by_cases hj : i < 64
        · have C := Lib.hid (H1 true (by simp; omega))
          clear H1
          go_wp2_with fail
          refine (with_any _ _ _ hx h0 h1).mono ?_
          rintro e w' ⟨rfl, rfl⟩
          go_wp2_with fail
          refine (C.out _).mono ?_
          rintro e w' ⟨rfl, rfl⟩
          go_wp2_with fail
          refine (less_any _ _ _ hx h0 h1).mono ?_
          rintro e w' ⟨rfl, rfl⟩
          go_wp2_with fail
          refine (has_less_same_any _ _ _ hx h0 h1).mono ?_
          rintro e w' ⟨rfl, rfl⟩
          go_wp2_with fail
          go_ret
          exact ⟨rfl, hb⟩
        · have C := Lib.hid (H1 false (by simp; omega))
          clear H1
          go_wp2_with fail
          refine (with_any _ _ _ hx h0 h1).mono ?_
          rintro e w' ⟨rfl, rfl⟩
          go_wp2_with fail
          refine (C.out _).mono ?_
          rintro e w' ⟨rfl, rfl⟩
          go_wp2_with fail
          refine (less_any _ _ _ hx h0 h1).mono ?_
          rintro e w' ⟨rfl, rfl⟩
          go_wp2_with fail
          refine (has_less_same_any _ _ _ hx h0 h1).mono ?_
          rintro e w' ⟨rfl, rfl⟩
          go_wp2_with fail
          go_ret
          exact ⟨rfl, hb⟩
      · have C := Lib.hid (H1 false (by simp; omega))
        clear H1
        go_wp2_with fail
        refine (with_any _ _ _ hx h0 h1).mono ?_
        rintro e w' ⟨rfl, rfl⟩
        go_wp2_with fail
        refine (C.out _).mono ?_
        rintro e w' ⟨rfl, rfl⟩
        go_wp2_with fail
        refine (less_any _ _ _ hx h0 h1).mono ?_
        rintro e w' ⟨rfl, rfl⟩
        go_wp2_with fail
        refine (has_less_same_any _ _ _ hx h0 h1).mono ?_
        rintro e w' ⟨rfl, rfl⟩
        go_wp2_with fail
        go_ret
        exact ⟨rfl, hb⟩
end Go.Proofs.YtkbljbfoidfagaaDoor
