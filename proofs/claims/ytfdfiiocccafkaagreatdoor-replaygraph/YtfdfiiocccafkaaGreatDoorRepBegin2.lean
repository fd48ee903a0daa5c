/-
  Contracts of Begin, and of the document's.
-/
import Derived.Test.YtfdfiiocccafkaaGreatDoorRepBegin
namespace Go.Proofs.YtfdfiiocccafkaaGreatDoor.Rp
open Go.RowKit Tx
/-- how many variables there are. -/
def cl (n : Int) : Nat := (min (max n 0) 64).toNat
theorem cl_le (n : Int) : cl n ≤ 64 := by unfold cl; omega
theorem firsts_succ (k : Nat) : firsts (k + 1) = firsts k ++ [(1, 0)] := by simp [firsts, List.replicate_succ']
set_option maxHeartbeats 1000000 in
set_option maxRecDepth 100000 in
theorem begin_at (n : Int) (k : Nat) (hk : min (max n 0) 64 = (k : Nat)) (hk2 : k ≤ 64) (w : World) : Calls Tryz.prog 9 #[.int .i64 n] w (VlPost (firsts k) 71 w) := by
  have HA := Lib.hid (Rn.At.new (E := encV) w (1, 0) #[.int .i64 1, .int .i64 0] rfl 71 rfl)
  have HB := Lib.hid (below_new w (.cells #[.int .i64 1, .int .i64 0] 71))
  have HK := Lib.hid hk
  rcases Int.lt_or_le n 0 with h | h
  · have hz : k = 0 := by omega
    subst hz
    have h2 : ¬ n > 0 := by omega
    clear hk
    go_enter Tryz.func9, Tryz.ntmps9
    go_wp2_with fail
    refine (repeat_any ⟨w.heap.size, 0, none⟩ 1 0 _ (by omega) HA.out).mono ?_
    rintro e w1 ⟨v, rfl, ho, hb⟩
    have HO := Lib.hid (ho.mono (B := w.heap.size) (by simp))
    have HB1 := Lib.hid (HB.out.trans (hb.mono HB.out.size))
    clear ho hb
    go_wp2
    go_ret
    exact ⟨v, rfl, HO.out, HB1.out⟩
  · rcases Int.lt_or_le 64 n with h3 | h3
    · have hz : k = 64 := by omega
      subst hz
      clear hk
      go_enter Tryz.func9, Tryz.ntmps9
      go_wp2_with fail
      refine (repeat_any ⟨w.heap.size, 0, none⟩ 1 64 _ (by omega) HA.out).mono ?_
      rintro e w1 ⟨v, rfl, ho, hb⟩
      have HO := Lib.hid (ho.mono (B := w.heap.size) (by simp))
      have HB1 := Lib.hid (HB.out.trans (hb.mono HB.out.size))
      clear ho hb
      go_wp2
      go_ret
      exact ⟨v, rfl, HO.out, HB1.out⟩
    · have hz : n = (k : Nat) := by omega
      subst hz
      have hki : (k : Int) ≤ 64 := by omega
      clear hk
      go_enter Tryz.func9, Tryz.ntmps9
      go_wp2_with fail
      refine (repeat_any ⟨w.heap.size, 0, none⟩ 1 k _ (by omega) HA.out).mono ?_
      rintro e w1 ⟨v, rfl, ho, hb⟩
      have HO := Lib.hid (ho.mono (B := w.heap.size) (by simp))
      have HB1 := Lib.hid (HB.out.trans (hb.mono HB.out.size))
      clear ho hb
      go_wp2
      go_ret
      exact ⟨v, rfl, HO.out, HB1.out⟩
theorem begin_any (n : Int) (w : World) : Calls Tryz.prog 9 #[.int .i64 n] w (VlPost (firsts (cl n)) 71 w) := begin_at n (cl n) (by unfold cl; omega) (cl_le n) w
def RbRel (n : Nat) (w : World) (v i : Value) (wr : World) : Prop := ∃ k : Nat, k ≤ n ∧ i = .int .i64 k ∧ Rn.Own encV wr w.heap.size 27 v (firsts k) ∧ Below w.heap.size w wr
end Go.Proofs.YtfdfiiocccafkaaGreatDoor.Rp
