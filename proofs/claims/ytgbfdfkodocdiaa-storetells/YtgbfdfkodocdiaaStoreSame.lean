/-
  The document's comparison of two stores that are the same.
-/
import Derived.Test.YtgbfdfkodocdiaaStoreRows
import Derived.Deep.QuietTactic
import Derived.BigQuiet
import Derived.Laws.StructEq
namespace Go.Proofs.Ytgbfdfkodocdiaa
open Go.RowKit St
theorem below_drewN (B : Nat) (w : World) (n : Nat) : Below B w (w.drewN n) := ⟨rfl, rfl, rfl, Nat.le_refl _, fun _ _ => rfl⟩
def SameRel (L : List Vr) (w : World) (i : Value) (wr : World) : Prop := ∃ k : Nat, k ≤ L.length ∧ i = .int .i64 k ∧ Below w.heap.size w wr
set_option maxHeartbeats 1000000 in
theorem same_yes (A B : Option Addr) (c d : Nat) (L : List Vr) (w : World) (hA : VarsAt w A L) (hB : VarsAt w B L) (hl : L.length ≤ 100) :
    Calls Try.prog 20 #[.slice A L.length c, .slice B L.length d] w fun e w' => e = .returned (.bool true) ∧ Below w.heap.size w w' := by
  have HA := Lib.hid hA
  have HB := Lib.hid hB
  clear hA hB
  go_enter Try.func20, Try.ntmps20
  go_wp2
  go_loopw [5] (SameRel L w) (fun i _ => L.length - (intOf i).toNat)
  case atStart => exact ⟨0, Nat.zero_le _, rfl, Below.refl _ _⟩
  case round =>
    obtain ⟨k, hk, rfl, hb⟩ := hrel
    have HW := Lib.hid hb
    clear hb
    by_cases hlt : k < L.length
    · obtain ⟨ad, v, rfl, hv, hok, h5⟩ := (HA.out.below HW.out (Nat.le_refl _)).at_ hlt
      obtain ⟨ad', v', rfl, hv', hok', h5'⟩ := (HB.out.below HW.out (Nat.le_refl _)).at_ hlt
      obtain rfl : v = v' := Option.some.inj (hv.symm.trans hv')
      obtain ⟨c0, c1, c2, c3, c4⟩ := h5
      obtain ⟨d0, d1, d2, d3, d4⟩ := h5'
      clear hv hv' hok hok'
      have hlt' : (k : Int) < (L.length : Int) := by omega
      have h0 : (0 : Int) ≤ (k : Int) := by omega
      go_wp2
      go_quiet (fail)
      go_wp2
      go_round
      case rel => exact ⟨k + 1, by omega, by go_num, HW.out.trans (below_drewN _ _ _)⟩
      case measure => simp [intOf]; omega
    · go_wp2
      go_ret
      exact ⟨rfl, HW.out⟩
end Go.Proofs.Ytgbfdfkodocdiaa
