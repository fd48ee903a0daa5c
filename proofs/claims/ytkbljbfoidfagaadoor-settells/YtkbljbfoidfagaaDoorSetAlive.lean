/-
  The contract of the statements' own first look: the answers that the document fixes are given; nothing that was there is changed.
-/
import Derived.Test.YtkbljbfoidfagaaDoorSetItems
import Derived.Deep.AppendLies
namespace Go.Proofs.YtkbljbfoidfagaaDoor
open Go.RowKit
theorem own_ints {w : World} {base : Nat} {A : Option Addr} {n c : Nat} {l : List Nat} (h : w.ownsRow base 3 1 (.slice A n c) n (vals l)) (hl : ∀ k ∈ l, k < 64) : IntsAt w A n (l.map fun (k : Nat) => (k : Int)) := by
  have hlen : l.length = n := by have := h.1; simpa [vals] using this
  refine ⟨by simpa using hlen, fun hn => ?_, ?_⟩
  · obtain ⟨g, cap, hv, _, hlt⟩ := h.form hn
    have hA : A = some ⟨g, 0, none⟩ := by injection hv
    subst hA
    refine ⟨_, rfl, fun j z hz => h.cells (g := g) rfl j _ ?_⟩
    simp [vals] at hz ⊢
    obtain ⟨a, ha, rfl⟩ := hz
    exact ⟨a, ha, rfl⟩
  · intro z hz
    obtain ⟨k, hk, rfl⟩ := List.mem_map.1 hz
    have := hl k hk
    exact ⟨by omega, by omega⟩
theorem items34 (w : World) (hT : TabAt w) : Calls Tryd.prog 16 #[.int .u64 34] w (ItemsPost 34 w) := items_any 34 w (by decide) hT
theorem has21 (w : World) : Calls Tryd.prog 9 #[.int .u64 2, .int .i64 1] w fun e w' => e = .returned (.bool true) ∧ w = w' := has_any 2 1 w (by decide) (by decide) (by decide)
theorem with02 (w : World) : Calls Tryd.prog 11 #[.int .u64 0, .int .i64 2] w fun e w' => e = .returned (.int .u64 4) ∧ w = w' := with_any 0 2 w (by decide) (by decide) (by decide)
theorem less71 (w : World) : Calls Tryd.prog 13 #[.int .u64 7, .int .i64 1] w fun e w' => e = .returned (.int .u64 5) ∧ w = w' := less_any 7 1 w (by decide) (by decide) (by decide)
theorem count7 (w : World) : Calls Tryd.prog 20 #[.int .u64 7] w fun e w' => e = .returned (.int .i64 3) ∧ w = w' := count_any 7 w (by decide)
theorem of51 (A : Option Addr) (c : Nat) (w : World) (h : IntsAt w A 3 [5, 1, 64]) : Calls Tryd.prog 21 #[.slice A 3 c] w fun e w' => e = .returned (.int .u64 34) ∧ w = w' := of_any A 3 c _ w (by decide) h
theorem it34 : Sm.items 34 = [1, 5] := by decide +kernel
theorem of3 (w : World) : IntsAt (w.alloc (.cells #[.int .i64 5, .int .i64 1, .int .i64 64] 3)) (some ⟨w.heap.size, 0, none⟩) 3 [5, 1, 64] := by
  refine ⟨rfl, fun _ => ⟨_, rfl, fun j z hz => ?_⟩, ?_⟩
  · match j, hz with
    | 0, hz => simp at hz; subst hz; simp [Addr.add]
    | 1, hz => simp at hz; subst hz; simp [Addr.add]
    | 2, hz => simp at hz; subst hz; simp [Addr.add]
    | k + 3, hz => simp at hz
  · intro z hz
    simp at hz
    rcases hz with rfl | rfl | rfl <;> exact ⟨by decide, by decide⟩
set_option maxHeartbeats 1000000 in
set_option maxRecDepth 100000 in
theorem alive_any (w : World) (hT : TabAt w) : Calls Tryd.prog 8 #[] w fun e w' => e = .returned (.bool true) ∧ Below w.heap.size w w' := by
  have HT := Lib.hid hT
  clear hT
  go_enter Tryd.func8, Tryd.ntmps8
  go_wp2_with fail
  refine (items34 _ HT.out).mono ?_
  rintro e w1 ⟨v, rfl, hown, hb⟩
  rw [it34] at hown
  obtain ⟨g, cap, rfl, hg1, hg2⟩ := hown.form (by decide)
  have hI := own_ints hown (by decide)
  have c0 : w1.cell? ⟨g, 0, none⟩ = some (.int .i64 1) := by
    obtain ⟨ad, h1, h2⟩ := hI.2.1 (by decide)
    injection h1 with h1
    subst h1
    simpa [Addr.add] using h2 0 1 rfl
  have HT1 := Lib.hid (HT.out.below hb HT.out.lt)
  clear hown hI
  go_wp2_with (first
    | (go_at_call 21; refine (of51 _ _ _ (of3 _)).mono ?_; rintro e w' ⟨rfl, rfl⟩)
    | (go_at_call 18; refine (first_zero _).mono ?_; rintro e w' ⟨rfl, rfl⟩)
    | (go_at_call 20; refine (count7 _).mono ?_; rintro e w' ⟨rfl, rfl⟩)
    | (go_at_call 9; refine (has21 _).mono ?_; rintro e w' ⟨rfl, rfl⟩)
    | (go_at_call 11; refine (with02 _).mono ?_; rintro e w' ⟨rfl, rfl⟩)
    | (go_at_call 13; refine (less71 _).mono ?_; rintro e w' ⟨rfl, rfl⟩))
  go_ret
  exact ⟨rfl, hb.alloc hb.size _⟩
end Go.Proofs.YtkbljbfoidfagaaDoor
