/-
  The walk of TopoRows.
-/
import Derived.Test.YtgelfjoacppkcaaDoorTopoAlive
namespace Go.Proofs.YtgelfjoacppkcaaDoor
open Go.RowKit
theorem row_set {o : Od.O} (h : Od.Right o) : Sm.ofL 0 (lint (Od.row o)) = 4294967295 := by
  apply Sm.ext; intro j
  rw [show (4294967295 : Nat) = 2 ^ 32 - 1 from rfl, Nat.testBit_two_pow_sub_one]
  by_cases hj : j < 64
  · rw [Sm.ofL_test _ _ _ hj, Nat.zero_testBit, Bool.false_or, Bool.eq_iff_iff, decide_eq_true_iff, decide_eq_true_iff]
    unfold lint Od.row
    rw [List.mem_map]
    constructor
    · rintro ⟨a, ha, e⟩
      rw [List.mem_map] at ha
      obtain ⟨p, hp, rfl⟩ := ha
      have := (Od.at_spec h (by simpa using hp)).1
      omega
    · intro hj
      have := h.pl hj
      exact ⟨j, List.mem_map.2 ⟨Od.pl o j, by simpa using this.2.1, this.2.2⟩, rfl⟩
  · rw [Sm.test_big (Sm.ofL_lt _ (by decide)) (by omega), decide_eq_false (by omega)]
theorem row_64 {o : Od.O} (h : Od.Right o) : ∀ k ∈ Od.row o, k < 64 := by
  intro k hk
  unfold Od.row at hk
  rw [List.mem_map] at hk
  obtain ⟨p, hp, rfl⟩ := hk
  have := (Od.at_spec h (by simpa using hp)).1
  omega
set_option maxHeartbeats 1000000 in
set_option maxRecDepth 100000 in
theorem topoRows_no (o : Od.O) (w : World) (ho : Od.Ok o) (hr : ¬ Od.Right o) (hT : TabAt w) :
    Calls Tryd.prog 7 #[.agg (ordA o)] w fun e w' => e = .returned (.bool true) ∧ Below w.heap.size w w' := by
  have HB := Lib.hid (Od.rightB_no hr)
  have HNR := Lib.hid hr
  have HT := Lib.hid (tabAt_new hT (.cells (ordA o) 26))
  have H0 := Lib.hid (ordAt_new w o 26)
  clear hr hT
  go_enter Tryd.func7, Tryd.ntmps7
  go_wp2_with fail
  refine (alive_any _ HT.out).mono ?_
  rintro e w1 ⟨rfl, hb1⟩
  have H1 := Lib.hid (H0.out.below hb1)
  have HB1 := Lib.hid ((below_new w (.cells (ordA o) 26)).trans (hb1.mono (below_new w (.cells (ordA o) 26)).size))
  clear hb1
  go_wp2_with (refine wpList_load_row rfl 26 (.tmp 1) rfl w.heap.size rfl 26 (ordA o) (0, 0) _ H1.out Tryd.underlying26 rfl (rordInfo o) ?_)
  refine (row_no o _ ho HNR.out).mono ?_
  rintro e w2 ⟨rfl, hb2⟩
  have H2 := Lib.hid (H1.out.below hb2)
  have HB2 := Lib.hid (HB1.out.trans (hb2.mono HB1.out.size))
  clear hb2
  go_wp2_with (refine wpList_load_row rfl 26 (.tmp 1) rfl w.heap.size rfl 26 (ordA o) (0, 0) _ H2.out Tryd.underlying26 rfl (rordInfo o) ?_)
  refine (right_val o false _ ho HB.out).mono ?_
  rintro e w3 ⟨rfl, hb3⟩
  go_wp2
  go_ret
  exact ⟨rfl, HB2.out.trans (hb3.mono HB2.out.size)⟩
def RowsRel (o : Od.O) (w : World) (v : Value) (base : Nat) (i : Value) (wr : World) : Prop :=
  ∃ k : Nat, k ≤ 32 ∧ i = .int .i64 k ∧ OrdAt wr w.heap.size o 26 ∧ Own wr base v (Od.row o) ∧ Below w.heap.size w wr
set_option maxHeartbeats 1000000 in
set_option maxRecDepth 100000 in
theorem topoRows_yes (o : Od.O) (w : World) (hr : Od.Right o) (hT : TabAt w) :
    Calls Tryd.prog 7 #[.agg (ordA o)] w fun e w' => e = .returned (.bool true) ∧ Below w.heap.size w w' := by
  have HB := Lib.hid (Od.rightB_yes hr)
  have HR := Lib.hid hr
  have HOk := Lib.hid hr.ok
  have HRs := Lib.hid (row_set hr)
  have HT := Lib.hid (tabAt_new hT (.cells (ordA o) 26))
  have H0 := Lib.hid (ordAt_new w o 26)
  clear hr hT
  go_enter Tryd.func7, Tryd.ntmps7
  go_wp2_with fail
  refine (alive_any _ HT.out).mono ?_
  rintro e w1 ⟨rfl, hb1⟩
  have H1 := Lib.hid (H0.out.below hb1)
  have HB1 := Lib.hid ((below_new w (.cells (ordA o) 26)).trans (hb1.mono (below_new w (.cells (ordA o) 26)).size))
  clear hb1
  go_wp2_with (refine wpList_load_row rfl 26 (.tmp 1) rfl w.heap.size rfl 26 (ordA o) (0, 0) _ H1.out Tryd.underlying26 rfl (rordInfo o) ?_)
  refine (row_yes o _ HR.out).mono ?_
  rintro e w2 ⟨v, rfl, hown, hb2⟩
  have H2 := Lib.hid (H1.out.below hb2)
  have HB2 := Lib.hid (HB1.out.trans (hb2.mono HB1.out.size))
  have HW2 := Lib.hid hown
  obtain ⟨gr, cr, hv, _, _⟩ := World.ownsRow.form hown (by rw [Od.row_len]; decide)
  rw [Od.row_len] at hv
  subst hv
  clear hb2 hown
  go_wp2_with (refine wpList_load_row rfl 26 (.tmp 1) rfl w.heap.size rfl 26 (ordA o) (0, 0) _ H2.out Tryd.underlying26 rfl (rordInfo o) ?_)
  refine (right_val o true _ HOk.out HB.out).mono ?_
  rintro e w3 ⟨rfl, hb3⟩
  have H3 := Lib.hid (H2.out.below hb3)
  have HB3 := Lib.hid (HB2.out.trans (hb3.mono HB2.out.size))
  have HW3 := Lib.hid (HW2.out.below hb3 (Nat.le_refl _))
  have HI3 := Lib.hid (show IntsAt w3 (some ⟨gr, 0, none⟩) 32 (lint (Od.row o)) from by have := HW3.out.ints (row_64 HR.out); rw [Od.row_len] at this; exact this)
  clear hb3
  go_wp2_with (go_at_call 26; refine (of_any _ 32 cr _ _ (by decide) HI3.out).mono ?_; rintro e w4 ⟨rfl, rfl⟩)
  rw [HRs.out]
  go_loopw [21] (RowsRel o w (.slice (some ⟨gr, 0, none⟩) 32 cr) w1.heap.size) (fun i _ => 32 - (intOf i).toNat)
  case atStart => exact ⟨0, by omega, rfl, H3.out, HW3.out, HB3.out⟩
  case round =>
    obtain ⟨k, hk, rfl, hO, hW, hB⟩ := hrel
    have HO := Lib.hid hO
    have HWr := Lib.hid hW
    have HBr := Lib.hid hB
    by_cases hlt : k < 32
    · obtain ⟨g', hA, hc⟩ := hW.at_ (k := k) (by rw [Od.row_len]; exact hlt)
      injection hA with hA
      injection hA with hA
      subst hA
      rw [row_at o] at hc
      have ha := Od.at_spec HR.out hlt
      have hd := hO.cell _ ha.1
      rw [ha.2] at hd
      have ha32 := ha.1
      clear ha hO hW hB
      go_wp2
      exact ⟨⟨k + 1, by omega, by go_num, HO.out, HWr.out, HBr.out⟩, by simp [intOf]; omega⟩
    · obtain rfl : k = 32 := by omega
      clear hO hW hB
      go_wp2
      go_ret
      exact ⟨rfl, HBr.out⟩
theorem topoRows_any (o : Od.O) (w : World) (ho : Od.Ok o) (hT : TabAt w) :
    Calls Tryd.prog 7 #[.agg (ordA o)] w fun e w' => e = .returned (.bool true) ∧ Below w.heap.size w w' := by
  by_cases hr : Od.Right o
  · exact topoRows_yes o w hr hT
  · exact topoRows_no o w ho hr hT
end Go.Proofs.YtgelfjoacppkcaaDoor
