/-
  Contracts of Begin, and of the document's.
-/
import Derived.Test.YtkbgnapbhboplaaRepBegin
namespace Go.Proofs.Ytkbgnapbhboplaa.Rp
open Go.RowKit Tx
/-- how many variables there are. -/
def cl (n : Int) : Nat := (min (max n 0) 64).toNat
theorem cl_le (n : Int) : cl n ≤ 64 := by unfold cl; omega
theorem firsts_succ (k : Nat) : firsts (k + 1) = firsts k ++ [(1, 0)] := by simp [firsts, List.replicate_succ']
set_option maxHeartbeats 1000000 in
theorem begin_at (n : Int) (k : Nat) (hk : min (max n 0) 64 = (k : Nat)) (hk2 : k ≤ 64) (w : World) : Calls Try.prog 22 #[.int .i64 n] w (VlPost (firsts k) 56 w) := by
  have HA := Lib.hid (Rn.At.new (E := encV) w (1, 0) #[.int .i64 1, .int .i64 0] rfl 56 rfl)
  have HB := Lib.hid (below_new w (.cells #[.int .i64 1, .int .i64 0] 56))
  have HK := Lib.hid hk
  rcases Int.lt_or_le n 0 with h | h
  · have hz : k = 0 := by omega
    subst hz
    have h2 : ¬ n > 0 := by omega
    clear hk
    go_enter Try.func22, Try.ntmps22
    go_wp2_with fail
    refine (repeat_any ⟨w.heap.size, 0, none⟩ 1 0 _ (by omega) HA.out).mono ?_
    rintro e w1 ⟨v, rfl, ho, hb⟩
    have HO := Lib.hid (ho.mono (B := w.heap.size) (by simp))
    have HB1 := Lib.hid (HB.out.trans (hb.mono HB.out.size))
    clear ho hb
    go_wp2
    go_ret
    exact ⟨v, rfl, HO.out, HB1.out⟩
  · rcases Int.lt_or_le 64 n with h3 | h3
    · have hz : k = 64 := by omega
      subst hz
      clear hk
      go_enter Try.func22, Try.ntmps22
      go_wp2_with fail
      refine (repeat_any ⟨w.heap.size, 0, none⟩ 1 64 _ (by omega) HA.out).mono ?_
      rintro e w1 ⟨v, rfl, ho, hb⟩
      have HO := Lib.hid (ho.mono (B := w.heap.size) (by simp))
      have HB1 := Lib.hid (HB.out.trans (hb.mono HB.out.size))
      clear ho hb
      go_wp2
      go_ret
      exact ⟨v, rfl, HO.out, HB1.out⟩
    · have hz : n = (k : Nat) := by omega
      subst hz
      have hki : (k : Int) ≤ 64 := by omega
      clear hk
      go_enter Try.func22, Try.ntmps22
      go_wp2_with fail
      refine (repeat_any ⟨w.heap.size, 0, none⟩ 1 k _ (by omega) HA.out).mono ?_
      rintro e w1 ⟨v, rfl, ho, hb⟩
      have HO := Lib.hid (ho.mono (B := w.heap.size) (by simp))
      have HB1 := Lib.hid (HB.out.trans (hb.mono HB.out.size))
      clear ho hb
      go_wp2
      go_ret
      exact ⟨v, rfl, HO.out, HB1.out⟩
theorem begin_any (n : Int) (w : World) : Calls Try.prog 22 #[.int .i64 n] w (VlPost (firsts (cl n)) 56 w) := begin_at n (cl n) (by unfold cl; omega) (cl_le n) w
def RbRel (n : Nat) (w : World) (v i : Value) (wr : World) : Prop := ∃ k : Nat, k ≤ n ∧ i = .int .i64 k ∧ Rn.Own encV wr w.heap.size 63 v (firsts k) ∧ Below w.heap.size w wr
set_option maxHeartbeats 1000000 in
theorem rbegin_any (n : Int) (w : World) : Calls Try.prog 23 #[.int .i64 n] w (VlPost (firsts (cl n)) 63 w) := by
  have hm := cl_le n
  have HC := Lib.hid (show (cl n : Int) = min (max n 0) 64 by unfold cl; omega)
  generalize cl n = m at hm HC
  go_enter Try.func23, Try.ntmps23
  go_wp2
  go_loopw [3, 4] (RbRel m w) (fun _ i _ => m - (intOf i).toNat)
  case atStart => exact ⟨0, Nat.zero_le _, rfl, Rn.Own.nil _ _ _, Below.refl _ _⟩
  case round =>
    obtain ⟨k, hk, rfl, ho, hb⟩ := hrel
    have HO := Lib.hid ho
    have HB := Lib.hid hb
    clear ho hb
    by_cases hlt : k < m
    · have h1 : (k : Int) < n := by have := HC.out; omega
      have h2 : (k : Int) < 64 := by omega
      have hlen : (firsts k).length = k := by simp [firsts]
      go_wp2_with (at_builtin; refine Rn.append_row encV vtR rfl _ _ rfl rfl (HO.out.alloc _) _ _ [(1, 0)] rfl rfl (Rn.At.new _ (1, 0) #[.int .i64 1, .int .i64 0] rfl _ rfl) ?c1 ?c2 ?_)
      case c1 => rw [hlen]; simp; omega
      case c2 => have := HB.out.size; simp; omega
      intro v' w1 ho1 hb1 hs1
      have HO1 := Lib.hid ho1
      have HB1 := Lib.hid ((HB.out.alloc HB.out.size _).trans hb1)
      clear ho1 hb1 hlen
      go_wp2
      go_round
      case rel => exact ⟨k + 1, by omega, by go_num, by rw [firsts_succ]; exact HO1.out, HB1.out⟩
      case measure => simp [intOf]; omega
    · have e : k = m := by omega
      subst e
      have HC := HC.out
      rcases Int.lt_or_le (k : Int) n with h1 | h1
      · have h2 : ¬ (k : Int) < 64 := by omega
        clear HC
        go_wp2
        go_ret
        exact ⟨_, rfl, HO.out, HB.out⟩
      · have h2 : ¬ (k : Int) < n := by omega
        clear HC
        go_wp2
        go_ret
        exact ⟨_, rfl, HO.out, HB.out⟩
end Go.Proofs.Ytkbgnapbhboplaa.Rp
