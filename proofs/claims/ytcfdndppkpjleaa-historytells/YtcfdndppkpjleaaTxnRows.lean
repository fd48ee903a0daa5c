/-
  Contracts of the functions that make rows of steps out of others: the statements' two, the library's Clone; of Save, and of value's Right; the document's comparison.
-/
import Derived.Test.YtcfdndppkpjleaaTxnBase
import Derived.Deep.QuietTactic
import Derived.BigQuiet
import Derived.Laws.StructEq
namespace Go.Proofs.Ytcfdndppkpjleaa.Tx
open Go.RowKit
def RowRel (L : List Sp) (e : TypeId) (w : World) (v i : Value) (wr : World) : Prop := ∃ k : Nat, k ≤ L.length ∧ i = .int .i64 k ∧ OwnVars wr w.heap.size e v (L.take k) ∧ Below w.heap.size w wr
/-- a row of the call's own, and nothing that was there is changed. -/
def RowPost (L : List Sp) (e : TypeId) (w : World) (x : Ending) (w' : World) : Prop := ∃ v, x = .returned v ∧ OwnVars w' w.heap.size e v L ∧ Below w.heap.size w w'
set_option maxHeartbeats 1000000 in
theorem ours_any (A : Option Addr) (c : Nat) (L : List Sp) (w : World) (h : VarsAt w A L) (hl : L.length ≤ 300) :
    Calls Try.prog 33 #[.slice A L.length c] w (RowPost L 89 w) := by
  have H := Lib.hid h
  clear h
  have hN : (L.length : Int) ≤ 9223372036854775807 := by omega
  go_enter Try.func33, Try.ntmps33
  go_wp2
  go_loopw [3, 8] (RowRel L 89 w) (fun _ i _ => L.length - (intOf i).toNat)
  case atStart => exact ⟨0, Nat.zero_le _, rfl, own_nil _ _ _, Below.refl _ _⟩
  case round =>
    obtain ⟨k, hk, rfl, ho, hb⟩ := hrel
    have HO := Lib.hid ho
    have HB := Lib.hid hb
    clear ho hb
    by_cases hlt : k < L.length
    · obtain ⟨ad, v, rfl, hv, hok, h5⟩ := (H.out.below HB.out (Nat.le_refl _)).at_ hlt
      obtain ⟨c0, c1, c2, c3⟩ := h5
      have HV := Lib.hid hv
      have HK := Lib.hid hok
      clear hv hok
      have hlt' : (k : Int) < (L.length : Int) := by omega
      go_wp2_with (at_builtin; refine append_vars rvt rfl _ _ rfl rfl ((HO.out.alloc _).alloc _) _ _ [v] rfl rfl (new_vars' (size_new _ _) v _ HK.out) ?c1 ?c2 ?_)
      case c1 => simp; omega
      case c2 => have := HB.out.size; simp; omega
      intro v' w1 ho1 hb1 hs1
      have HO1 := Lib.hid ho1
      have HB1 := Lib.hid (((HB.out.alloc HB.out.size _).alloc (by have := HB.out.size; simp; omega) _).trans hb1)
      clear ho1 hb1
      go_wp2
      go_round
      case rel => exact ⟨k + 1, by omega, by go_num, by rw [take_step HV.out]; exact HO1.out, HB1.out⟩
      case measure => simp [intOf]; omega
    · have hlt' : ¬ (k : Int) < (L.length : Int) := by omega
      go_wp2
      go_ret
      have := HO.out
      rw [List.take_of_length_le (by omega)] at this
      exact ⟨_, rfl, this, HB.out⟩
theorem below_drewN (B : Nat) (w : World) (n : Nat) : Below B w (w.drewN n) := ⟨rfl, rfl, rfl, Nat.le_refl _, fun _ _ => rfl⟩
def SameRel (L : List Sp) (w : World) (i : Value) (wr : World) : Prop := ∃ k : Nat, k ≤ L.length ∧ i = .int .i64 k ∧ Below w.heap.size w wr
set_option maxHeartbeats 1000000 in
theorem same_yes (A B : Option Addr) (c d : Nat) (L : List Sp) (w : World) (hA : VarsAt w A L) (hB : VarsAt w B L) (hl : L.length ≤ 300) :
    Calls Try.prog 32 #[.slice A L.length c, .slice B L.length d] w fun e w' => e = .returned (.bool true) ∧ Below w.heap.size w w' := by
  have HA := Lib.hid hA
  have HB := Lib.hid hB
  clear hA hB
  go_enter Try.func32, Try.ntmps32
  go_wp2
  go_loopw [5] (SameRel L w) (fun i _ => L.length - (intOf i).toNat)
  case atStart => exact ⟨0, Nat.zero_le _, rfl, Below.refl _ _⟩
  case round =>
    obtain ⟨k, hk, rfl, hb⟩ := hrel
    have HW := Lib.hid hb
    clear hb
    by_cases hlt : k < L.length
    · obtain ⟨ad, v, rfl, hv, hok, h5⟩ := (HA.out.below HW.out (Nat.le_refl _)).at_ hlt
      obtain ⟨ad', v', rfl, hv', hok', h5'⟩ := (HB.out.below HW.out (Nat.le_refl _)).at_ hlt
      obtain rfl : v = v' := Option.some.inj (hv.symm.trans hv')
      obtain ⟨c0, c1, c2, c3⟩ := h5
      obtain ⟨d0, d1, d2, d3⟩ := h5'
      clear hv hv' hok hok'
      have hlt' : (k : Int) < (L.length : Int) := by omega
      have h0 : (0 : Int) ≤ (k : Int) := by omega
      go_wp2
      go_quiet (fail)
      go_wp2
      go_round
      case rel => exact ⟨k + 1, by omega, by go_num, HW.out.trans (below_drewN _ _ _)⟩
      case measure => simp [intOf]; omega
    · go_wp2
      go_ret
      exact ⟨rfl, HW.out⟩
set_option maxHeartbeats 1000000 in
theorem right_any (k n : Int) (w : World) :
    Calls Try.prog 67 #[.agg #[.int .i64 k, .int .i64 n]] w fun e w' => e = .returned (.bool (right k n)) ∧ Below w.heap.size w w' := by
  unfold right
  by_cases h0 : k = 0
  · subst h0
    go_enter Try.func67, Try.ntmps67
    go_wp2
    go_ret
    exact ⟨rfl, below_new _ _⟩
  by_cases h1 : k = 1
  · subst h1
    go_enter Try.func67, Try.ntmps67
    go_wp2
    go_ret
    exact ⟨rfl, below_new _ _⟩
  by_cases h2 : k = 2
  · subst h2
    by_cases hn : 0 ≤ n
    · have hd : decide (0 ≤ n) = true := by simpa using hn
      go_enter Try.func67, Try.ntmps67
      go_wp2
      go_ret
      exact ⟨rfl, below_new _ _⟩
    · have hd : decide (0 ≤ n) = false := by simpa using hn
      go_enter Try.func67, Try.ntmps67
      go_wp2
      go_ret
      exact ⟨rfl, below_new _ _⟩
  · go_enter Try.func67, Try.ntmps67
    go_wp2
    go_ret
    exact ⟨rfl, below_new _ _⟩
theorem right_val (k n : Int) (b : Bool) (w : World) (h : right k n = b) :
    Calls Try.prog 67 #[.agg #[.int .i64 k, .int .i64 n]] w fun e w' => e = .returned (.bool b) ∧ Below w.heap.size w w' := by
  have := right_any k n w
  rwa [h] at this
end Go.Proofs.Ytcfdndppkpjleaa.Tx
