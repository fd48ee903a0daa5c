/-
  Contracts of the document's own answers for sets: First, Same.
-/
import Derived.Test.YtkbljbfoidfagaaDoorRefItems
namespace Go.Proofs.YtkbljbfoidfagaaDoor
open Go.RowKit
set_option maxHeartbeats 1000000 in
theorem rfirst_zero (w : World) : Calls Tryd.prog 19 #[.int .u64 0] w fun e w' => e = .returned (.int .i64 (-1)) ∧ Below w.heap.size w w' := by
  have hc : ∀ W, Calls Tryd.prog 17 #[.int .u64 0] W (ItemsPost 0 W) := fun W => ritems_any 0 W (by decide)
  have HC := Lib.hid hc
  clear hc
  go_enter Tryd.func19, Tryd.ntmps19
  go_wp2_with fail
  refine (HC.out _).mono ?_
  rintro e w1 ⟨v, rfl, hown, hb⟩
  rw [Sm.items_zero] at hown
  obtain ⟨A, c, rfl⟩ := own_shape hown
  clear hown
  go_wp2
  go_ret
  exact ⟨rfl, hb⟩
set_option maxHeartbeats 1000000 in
theorem rfirst_any (x : Nat) (w : World) (hx : x < 18446744073709551616) (h0 : x ≠ 0) :
    Calls Tryd.prog 19 #[.int .u64 x] w fun e w' => e = .returned (.int .i64 (Sm.first x : Nat)) ∧ Below w.heap.size w w' := by
  obtain ⟨hf1, hf2, hf3⟩ := Sm.first_spec h0 hx
  have hcons := Sm.items_cons hx hf1 hf2 hf3
  have hpos : 0 < (Sm.items x).length := by rw [hcons]; simp
  have hlen := Sm.items_len x
  have hl0 : (((Sm.items x).length : Int) == 0) = false := by simp; intro h; rw [h] at hpos; simp at hpos
  have HC := Lib.hid hcons
  clear hcons hf2 hf3
  go_enter Tryd.func19, Tryd.ntmps19
  go_wp2_with fail
  refine (ritems_any _ _ hx).mono ?_
  rintro e w1 ⟨v, rfl, hown, hb⟩
  obtain ⟨A, c, rfl⟩ := own_shape hown
  obtain ⟨g, z, rfl, hz, hc⟩ := own_at hown hpos
  have hze : z = Sm.first x := by
    rw [HC.out] at hz
    simpa using hz.symm
  subst hze
  clear hown hz
  go_wp2
  go_ret
  exact ⟨rfl, hb⟩
set_option maxHeartbeats 1000000 in
set_option maxRecDepth 100000 in
theorem same_any (A B : Option Addr) (n c d : Nat) (zs : List Int) (w : World) (hn : n ≤ 9223372036854775807) (ha : IntsAt w A n zs) (hb : IntsAt w B n zs) :
    Calls Tryd.prog 15 #[.slice A n c, .slice B n d] w fun e w' => e = .returned (.bool true) ∧ Below w.heap.size w w' := by
  have HA := Lib.hid ha
  have HB := Lib.hid hb
  clear ha hb
  go_enter Tryd.func15, Tryd.ntmps15
  go_wp2
  go_loopw [5] (fun i wr => ∃ k q : Nat, k ≤ n ∧ i = .int .i64 k ∧ wr = w.drewN q) (fun i _ => n - (intOf i).toNat)
  case atStart => exact ⟨0, 0, Nat.zero_le _, rfl, rfl⟩
  case round =>
    obtain ⟨k, q, hk, rfl, rfl⟩ := hrel
    by_cases hlt : k < n
    · obtain ⟨ad, z, rfl, hz, hc, h0, h1⟩ := HA.out.at_ hlt
      obtain ⟨ad', z', rfl, hz', hc', _⟩ := HB.out.at_ hlt
      have e : z' = z := by rw [hz] at hz'; injection hz' with e; exact e.symm
      subst e
      clear hz hz'
      have hlt' : (k : Int) < (n : Int) := by omega
      go_wp2
      go_quiet (fail)
      go_wp2
      exact ⟨⟨k + 1, q + nq, by omega, by go_num, rfl⟩, by simp [intOf]; omega⟩
    · go_wp2
      go_ret
      exact ⟨rfl, below_drewN (Below.refl _ _) _⟩
end Go.Proofs.YtkbljbfoidfagaaDoor
