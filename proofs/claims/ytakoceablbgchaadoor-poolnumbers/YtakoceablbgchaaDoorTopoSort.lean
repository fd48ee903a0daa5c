/-
  The contract of topo.Sorted.
-/
import Derived.Test.YtakoceablbgchaaDoorTopoStand
namespace Go.Proofs.YtakoceablbgchaaDoor
open Go.RowKit
structure SSt (m : Mm.Gr) (o : Od.O) (w wr : World) : Prop where
  gr : MatAt wr w.heap.size m 27
  od : OrdAt wr (w.heap.size + 1) o 29
  tab : TabAt wr
  bel : Below w.heap.size w wr
theorem SSt.below {m : Mm.Gr} {o : Od.O} {w W W' : World} (h : SSt m o w W) (hb : Below W.heap.size W W') : SSt m o w W' :=
  ⟨h.gr.below hb, h.od.below hb, tab_below h.tab hb, h.bel.trans (hb.mono h.bel.size)⟩
theorem SSt.drew {m : Mm.Gr} {o : Od.O} {w W : World} (h : SSt m o w W) : SSt m o w W.drew := h.below (below_drew W)
theorem SSt.drewN {m : Mm.Gr} {o : Od.O} {w W : World} (h : SSt m o w W) (n : Nat) : SSt m o w (W.drewN n) := h.below (below_drewN (Below.refl _ _) n)
theorem sst_first {m : Mm.Gr} {o : Od.O} {w : World} (hT : TabAt w) : SSt m o w ((w.alloc (.cells (matA m) 27)).alloc (.cells (ordA o) 29)) := by
  refine ⟨(matAt_new _ _ _).alloc _, ?_, tabAt_new (tabAt_new hT _) _, ((Below.refl _ _).alloc (Nat.le_refl _) _).alloc (by simp) _⟩
  have := ordAt_new (w.alloc (.cells (matA m) 27)) o 29
  simpa using this
def SortRel (m : Mm.Gr) (o : Od.O) (w : World) (i : Value) (wr : World) : Prop :=
  ∃ k : Nat, k ≤ 32 ∧ i = .int .i64 k ∧ (∀ i j, i < k → Mm.E m i j → o i < o j) ∧ SSt m o w wr
def SortIn (m : Mm.Gr) (o : Od.O) (w : World) (k : Nat) (v : Value) (base : Nat) (i : Value) (wr : World) : Prop :=
  ∃ n : Nat, n ≤ (Sm.items (Mm.outs m k)).length ∧ i = .int .i64 n ∧ (∀ t j, t < n → (Sm.items (Mm.outs m k))[t]? = some j → o k < o j) ∧ Own wr base v (Sm.items (Mm.outs m k)) ∧ SSt m o w wr
theorem outs_item {m : Mm.Gr} {k t : Nat} (h : t < (Sm.items (Mm.outs m k)).length) : Mm.E m k (Sm.items (Mm.outs m k))[t] :=
  (Mm.outs_test m k _).1 (Sm.items_mem.1 (List.getElem_mem h)).2
theorem outs_mem {m : Mm.Gr} {k j : Nat} (h : Mm.E m k j) : ∃ t, t < (Sm.items (Mm.outs m k)).length ∧ (Sm.items (Mm.outs m k))[t]? = some j := by
  have hm : j ∈ Sm.items (Mm.outs m k) := Sm.items_mem.2 ⟨by have := h.2.1; omega, (Mm.outs_test m k j).2 h⟩
  obtain ⟨t, ht, e⟩ := List.mem_iff_getElem.1 hm
  exact ⟨t, ht, by rw [List.getElem?_eq_getElem ht, e]⟩
set_option maxHeartbeats 1000000 in
set_option maxRecDepth 100000 in
theorem sorted_not (m : Mm.Gr) (o : Od.O) (w : World) (ho : Od.Ok o) (hr : ¬ Od.Right o) (hT : TabAt w) :
    Calls Tryd.prog 64 #[.agg (matA m), .agg (ordA o)] w fun e w' => e = .returned (.bool (Od.sortedB m o)) ∧ Below w.heap.size w w' := by
  have HB := Lib.hid (Od.rightB_no hr)
  have HS := Lib.hid (Od.sortedB_no (m := m) (o := o) fun h => hr h.1)
  have H0 := Lib.hid (sst_first (m := m) (o := o) hT)
  clear hr hT
  go_enter Tryd.func64, Tryd.ntmps64
  go_wp2_with (refine wpList_load_row rfl 29 (.tmp 3) rfl (w.heap.size + 1) rfl 29 (ordA o) (0, 0) _ H0.out.od Tryd.underlying29 rfl (ordInfo o) ?_)
  refine (right_val o false _ ho HB.out).mono ?_
  rintro e w1 ⟨rfl, hb1⟩
  go_wp2
  go_ret
  rw [HS.out]
  exact ⟨rfl, (H0.out.below hb1).bel⟩
set_option maxHeartbeats 1000000 in
set_option maxRecDepth 100000 in
theorem sorted_right (m : Mm.Gr) (o : Od.O) (w : World) (hm : Mm.Ok m) (hr : Od.Right o) (hT : TabAt w) :
    Calls Tryd.prog 64 #[.agg (matA m), .agg (ordA o)] w fun e w' => e = .returned (.bool (Od.sortedB m o)) ∧ Below w.heap.size w w' := by
  have HR := Lib.hid hr
  have HB := Lib.hid (Od.rightB_yes hr)
  have HO := Lib.hid hr.ok
  have H0 := Lib.hid (sst_first (m := m) (o := o) hT)
  clear hr hT
  go_enter Tryd.func64, Tryd.ntmps64
  go_wp2_with (refine wpList_load_row rfl 29 (.tmp 3) rfl (w.heap.size + 1) rfl 29 (ordA o) (0, 0) _ H0.out.od Tryd.underlying29 rfl (ordInfo o) ?_)
  refine (right_val o true _ HO.out HB.out).mono ?_
  rintro e w1 ⟨rfl, hb1⟩
  have H1 := Lib.hid (H0.out.below hb1)
  clear hb1
  go_wp2
  go_loopw [11] (SortRel m o w) (fun i _ => 32 - (intOf i).toNat)
  case atStart => exact ⟨0, by omega, rfl, fun i j hi => absurd hi (by omega), H1.out⟩
  case round =>
    obtain ⟨k, hk, rfl, hS, hst⟩ := hrel
    have HS := Lib.hid hS
    have HST := Lib.hid hst
    clear hS hst
    by_cases hlt : k < 32
    · have hl := Mm.outs_lt m k
      have hl64 : Mm.outs m k < 18446744073709551616 := by omega
      go_wp2_with (refine wpList_load_row rfl 27 (.tmp 2) rfl w.heap.size rfl 27 (matA m) (0, 0) _ HST.out.gr Tryd.underlying27 rfl (matInfo m) ?_)
      refine (outs_in m k _ hm hlt).mono ?_
      rintro e w2 ⟨rfl, hb2⟩
      have HS2 := Lib.hid (HST.out.below hb2)
      clear hb2
      go_wp2_with fail
      refine (items_any _ _ hl64 HS2.out.tab).mono ?_
      rintro e w3 ⟨v, rfl, hown, hb3⟩
      have HS3 := Lib.hid (HS2.out.below hb3)
      have HW := Lib.hid (show Own w3 w2.heap.size v (Sm.items (Mm.outs m k)) from hown)
      obtain ⟨A, c, rfl, hc1, hc2⟩ := HW.out.shape
      have hlen := Sm.items_len (Mm.outs m k)
      clear hb3 hown
      go_wp2
      go_loopw [19] (SortIn m o w k (.slice A (Sm.items (Mm.outs m k)).length c) w2.heap.size) (fun i _ => 64 - (intOf i).toNat)
      case atStart => exact ⟨0, by omega, rfl, fun t j ht => absurd ht (by omega), HW.out, HS3.out⟩
      case round =>
        obtain ⟨n, hn, rfl, hlow, hown, hst⟩ := hrel
        have HLow := Lib.hid hlow
        have HOw := Lib.hid hown
        have HSr := Lib.hid hst
        clear hlow
        by_cases hnl : n < (Sm.items (Mm.outs m k)).length
        · obtain ⟨g, rfl, hc⟩ := hown.at_ hnl
          have he := outs_item hnl
          have hj := he.2.1
          have HE := Lib.hid he
          have HJ := Lib.hid (List.getElem?_eq_getElem hnl)
          clear he
          generalize (Sm.items (Mm.outs m k))[n] = j at *
          have d1 := hst.od.cell k hlt
          have d2 := hst.od.cell j hj
          clear hown hst
          by_cases hlow : o k < o j
          · go_wp2
            go_quiet (fail)
            go_wp2
            refine ⟨⟨n + 1, by omega, by go_num, fun t j' ht hj' => ?_, HOw.out, HSr.out.drewN _⟩, by simp [intOf]; omega⟩
            by_cases e : t = n
            · subst e
              rw [HJ.out] at hj'
              injection hj' with hj'
              subst hj'
              exact hlow
            · exact HLow.out t j' (by omega) hj'
          · have hge : o j ≤ o k := by omega
            have HF := Lib.hid (Od.sortedB_no (m := m) (o := o) fun h => hlow (h.2 k j HE.out))
            go_wp2
            go_quiet (fail)
            go_wp2
            go_ret
            rw [HF.out]
            exact ⟨rfl, (HSr.out.drewN _).bel⟩
        · obtain rfl : n = (Sm.items (Mm.outs m k)).length := by omega
          clear hown hst
          go_wp2
          refine ⟨⟨k + 1, by omega, by go_num, fun i j hi he => ?_, HSr.out⟩, by simp [intOf]; omega⟩
          by_cases e : i = k
          · subst e
            obtain ⟨t, ht, hj⟩ := outs_mem he
            exact HLow.out t j ht hj
          · exact HS.out i j (by omega) he
    · obtain rfl : k = 32 := by omega
      have HF := Lib.hid (Od.sortedB_yes ⟨HR.out, fun i j he => HS.out i j he.1 he⟩)
      go_wp2
      go_ret
      rw [HF.out]
      exact ⟨rfl, HST.out.bel⟩
theorem sorted_any (m : Mm.Gr) (o : Od.O) (w : World) (hm : Mm.Ok m) (ho : Od.Ok o) (hT : TabAt w) :
    Calls Tryd.prog 64 #[.agg (matA m), .agg (ordA o)] w fun e w' => e = .returned (.bool (Od.sortedB m o)) ∧ Below w.heap.size w w' := by
  by_cases hr : Od.Right o
  · exact sorted_right m o w hm hr hT
  · exact sorted_not m o w ho hr hT
theorem sorted_val (m : Mm.Gr) (o : Od.O) (b : Bool) (w : World) (hm : Mm.Ok m) (ho : Od.Ok o) (hT : TabAt w) (h : Od.sortedB m o = b) :
    Calls Tryd.prog 64 #[.agg (matA m), .agg (ordA o)] w fun e w' => e = .returned (.bool b) ∧ Below w.heap.size w w' := by
  have := sorted_any m o w hm ho hT
  rw [h] at this; exact this
end Go.Proofs.YtakoceablbgchaaDoor
