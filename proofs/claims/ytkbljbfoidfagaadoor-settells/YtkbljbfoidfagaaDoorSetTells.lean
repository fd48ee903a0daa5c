/-
  The walk of SetTells: for every set, every number and any row of numbers it answers true; nothing that was there is changed.
-/
import Derived.Test.YtkbljbfoidfagaaDoorRefRest
namespace Go.Proofs.YtkbljbfoidfagaaDoor
open Go.RowKit
set_option maxHeartbeats 1000000 in
set_option maxRecDepth 100000 in
theorem setTells_long (x i : Int) (A : Option Addr) (n c : Nat) (w : World) (hT : TabAt w) (hn : n ≤ 9223372036854775807) (hl : 200 < n) :
    Calls Tryd.prog 3 #[.int .u64 x, .int .i64 i, .slice A n c] w fun e w' => e = .returned (.bool true) ∧ Below w.heap.size w w' := by
  have HT := Lib.hid hT
  clear hT
  go_enter Tryd.func3, Tryd.ntmps3
  go_wp2_with (go_at_call 8; refine (alive_any _ HT.out).mono ?_; rintro e w1 ⟨rfl, hb1⟩)
  go_ret
  exact ⟨rfl, hb1⟩
/-- both First, in one form. -/
def fst (x : Nat) : Int := if x = 0 then -1 else (Sm.first x : Nat)
theorem first_fst (x : Nat) (w : World) (hx : x < 18446744073709551616) (hT : TabAt w) :
    Calls Tryd.prog 18 #[.int .u64 x] w fun e w' => e = .returned (.int .i64 (fst x)) ∧ w = w' := by
  by_cases h : x = 0
  · subst h; exact first_zero w
  · unfold fst; rw [if_neg h]; exact first_any x w hx h hT
theorem rfirst_fst (x : Nat) (w : World) (hx : x < 18446744073709551616) :
    Calls Tryd.prog 19 #[.int .u64 x] w fun e w' => e = .returned (.int .i64 (fst x)) ∧ Below w.heap.size w w' := by
  by_cases h : x = 0
  · subst h; exact rfirst_zero w
  · unfold fst; rw [if_neg h]; exact rfirst_any x w hx h
set_option maxHeartbeats 1000000 in
set_option maxRecDepth 100000 in
theorem setTells_short (x : Nat) (i : Int) (A : Option Addr) (n c : Nat) (zs : List Int) (w : World) (hx : x < 18446744073709551616) (h0 : -9223372036854775808 ≤ i) (h1 : i ≤ 9223372036854775807) (hT : TabAt w) (hn : n ≤ 200) (ha : IntsAt w A n zs) :
    Calls Tryd.prog 3 #[.int .u64 x, .int .i64 i, .slice A n c] w fun e w' => e = .returned (.bool true) ∧ Below w.heap.size w w' := by
  have HT := Lib.hid hT
  have HA := Lib.hid ha
  clear hT ha
  have hlen := Sm.items_len x
  go_enter Tryd.func3, Tryd.ntmps3
  go_wp2_with fail
  refine (alive_any _ HT.out).mono ?_
  rintro e w1 ⟨rfl, hb1⟩
  have HT1 := Lib.hid (HT.out.below hb1 HT.out.lt)
  have HA1 := Lib.hid (HA.out.below hb1)
  go_wp2_with fail
  refine (has_any _ _ _ hx h0 h1).mono ?_
  rintro e w' ⟨rfl, rfl⟩
  go_wp2_with fail
  refine (rhas_any _ _ _ hx h0 h1).mono ?_
  rintro e w' ⟨rfl, rfl⟩
  go_wp2_with fail
  refine (with_any _ _ _ hx h0 h1).mono ?_
  rintro e w' ⟨rfl, rfl⟩
  go_wp2_with fail
  refine (rwith_any _ _ _ hx h0 h1).mono ?_
  rintro e w' ⟨rfl, rfl⟩
  go_wp2_with fail
  refine (less_any _ _ _ hx h0 h1).mono ?_
  rintro e w' ⟨rfl, rfl⟩
  go_wp2_with fail
  refine (rless_any _ _ _ hx h0 h1).mono ?_
  rintro e w' ⟨rfl, rfl⟩
  go_wp2_with fail
  refine (items_any _ _ hx HT1.out).mono ?_
  rintro e w2 ⟨v2, rfl, hown2, hb2⟩
  have HT2 := Lib.hid (HT1.out.below hb2 HT1.out.lt)
  have HA2 := Lib.hid (HA1.out.below hb2)
  obtain ⟨A2, c2, rfl⟩ := own_shape hown2
  have HI2 := Lib.hid (own_ints hown2 (fun k hk => Sm.items_lt hk))
  clear hown2
  go_wp2_with fail
  refine (ritems_any _ _ hx).mono ?_
  rintro e w3 ⟨v3, rfl, hown3, hb3⟩
  have HT3 := Lib.hid (HT2.out.below hb3 HT2.out.lt)
  have HA3 := Lib.hid (HA2.out.below hb3)
  have HI2' := Lib.hid (HI2.out.below hb3)
  obtain ⟨A3, c3, rfl⟩ := own_shape hown3
  have HI3 := Lib.hid (own_ints hown3 (fun k hk => Sm.items_lt hk))
  clear hown3
  go_wp2_with fail
  refine (same_any _ _ _ _ _ _ _ (by omega) HI2'.out HI3.out).mono ?_
  rintro e w4 ⟨rfl, hb4⟩
  have HT4 := Lib.hid (HT3.out.below hb4 HT3.out.lt)
  have HA4 := Lib.hid (HA3.out.below hb4)
  go_wp2_with fail
  refine (first_fst _ _ hx HT4.out).mono ?_
  rintro e w' ⟨rfl, rfl⟩
  go_wp2_with fail
  refine (rfirst_fst _ _ hx).mono ?_
  rintro e w5 ⟨rfl, hb5⟩
  have HA5 := Lib.hid (HA4.out.below hb5)
  go_wp2_with fail
  refine (count_any _ _ hx).mono ?_
  rintro e w' ⟨rfl, rfl⟩
  go_wp2_with fail
  refine (ritems_any _ _ hx).mono ?_
  rintro e w6 ⟨v6, rfl, hown6, hb6⟩
  have HA6 := Lib.hid (HA5.out.below hb6)
  obtain ⟨A6, c6, rfl⟩ := own_shape hown6
  clear hown6
  have hcnt : (((Sm.count x : Nat) : Int) == (((Sm.items x).length : Nat) : Int)) = true := by simp [Sm.count]
  go_wp2_with fail
  refine (of_any _ _ _ zs _ (by omega) HA6.out).mono ?_
  rintro e w' ⟨rfl, rfl⟩
  go_wp2_with fail
  refine (rof_any _ _ _ zs _ (by omega) HA6.out).mono ?_
  rintro e w' ⟨rfl, rfl⟩
  go_wp2
  go_ret
  refine ⟨rfl, ?_⟩
  have s1 := hb1.size
  have s2 := hb2.size
  have s3 := hb3.size
  have s4 := hb4.size
  have s5 := hb5.size
  exact ((((hb1.trans (hb2.mono s1)).trans (hb3.mono (by omega))).trans (hb4.mono (by omega))).trans (hb5.mono (by omega))).trans (hb6.mono (by omega))
end Go.Proofs.YtkbljbfoidfagaaDoor
