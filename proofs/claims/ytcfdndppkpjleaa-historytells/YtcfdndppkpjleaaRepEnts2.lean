/-
  Contracts of the statements' Entries and Ours: rows of entries, each with its steps.
-/
import Derived.Test.YtcfdndppkpjleaaRepEnts
namespace Go.Proofs.Ytcfdndppkpjleaa.Rp
open Go.RowKit Tx Az
set_option maxHeartbeats 4000000 in
set_option maxRecDepth 100000 in
theorem ours_ents (A : Option Addr) (c : Nat) (X0 : List Xc) (L : List Ent) (w : World) (h : ItAt w A X0 L) (hf : few L) (hl : L.length ≤ 10000) :
    Calls Try.prog 17 #[.slice A L.length c] w (ItPost 77 L w) := by
  have H := Lib.hid h
  have HFW := Lib.hid hf
  clear h hf
  have hN : (L.length : Int) ≤ 9223372036854775807 := by omega
  go_enter Try.func17, Try.ntmps17
  go_wp2
  go_loopw [3, 8] (ItRel 77 L w) (fun _ i _ => L.length - (intOf i).toNat)
  case atStart => exact ⟨0, [], Nat.zero_le _, rfl, OwnI.nil _ _ _, Below.refl _ _⟩
  case round =>
    obtain ⟨k, X, hk, rfl, ho, hb⟩ := hrel
    have HO := Lib.hid ho
    have HB := Lib.hid hb
    clear ho hb
    by_cases hlt : k < L.length
    · obtain ⟨ad, x, rfl, hXk, hlk, hrd, h5⟩ := (H.out.below HB.out (Nat.le_refl _)).at_ hlt
      obtain ⟨c0, c1, c2, c3, c4⟩ := h5
      have HLK := Lib.hid hlk
      have HX := Lib.hid (H.out.rd x (List.mem_of_getElem? hXk))
      have HF := Lib.hid (HFW.out x.e (List.mem_of_getElem? hlk))
      have HXL := Lib.hid (show X.length ≤ 10000 by rw [HO.out.len, List.length_take]; omega)
      have HE := Lib.hid (show ESt wr.heap.size w.heap.size 67 x w (wr.alloc (.cells (entA x) 67)) from ⟨BoxX.new _ _ _, HB.out.alloc HB.out.size _, by have := HB.out.size; simp; omega⟩)
      unfold entA at HE
      clear hXk hlk hrd
      have hlt' : (k : Int) < (L.length : Int) := by omega
      have h0 : (0 : Int) ≤ (k : Int) := by omega
      go_wp2
      obtain ⟨w1, hw1⟩ : ∃ w1, w1 = wr.alloc (.cells #[.int .i64 x.e.id, .bool x.e.com, .bool x.e.ovr, .slice x.A x.e.rd.length x.c, .slice x.B x.e.wt.length x.d] 67) := ⟨_, rfl⟩
      have HB1 := Lib.hid (show Below wr.heap.size wr w1.drew by rw [hw1]; exact (Rn.below_new wr (.cells (entA x) 67)).trans (Tx.below_drewN _ _ 1))
      rw [← hw1] at HE ⊢
      clear hw1 c0 c1 c2 c3 c4
      refine wp_region_noPanic ?_
      refine region_z 17 (ESt wr.heap.size w.heap.size 67 x w) 16 1000 rfl (by kernel_rfl) (by exact HE.out.below (Tx.below_drewN _ _ 1)) (fun hHeld => ?_)
      have hO := HO.out.below HB1.out
      refine take_z 0 12 (u3) rfl rfl (by kernel_rfl) (by kernel_rfl) (by kernel_rfl) (by kernel_rfl) (fun _ _ _ h => h) (Or.inl ⟨by rfl, by intro W hW; clear hW; go_simp⟩) hHeld ?_
      simp only [put_laws]
      refine take_z 1 13 (.pointer (some ⟨wr.heap.size, 0, none⟩)) rfl rfl (by kernel_rfl) (by kernel_rfl) (by kernel_rfl) (by kernel_rfl) (fun _ _ _ h => h) (Or.inl ⟨by rfl, by intro W hW; clear hW; go_simp⟩) hHeld ?_
      simp only [put_laws]
      refine take_z 2 14 (.int .i64 x.e.id) rfl rfl (by kernel_rfl) (by kernel_rfl) (by kernel_rfl) (by kernel_rfl) (fun _ _ _ h => h) (Or.inl ⟨by rfl, by intro W hW; have hc := hW.box.c0; clear hW; go_simp⟩) hHeld ?_
      simp only [put_laws]
      refine take_z 3 15 (.pointer (some ⟨wr.heap.size, 1, none⟩)) rfl rfl (by kernel_rfl) (by kernel_rfl) (by kernel_rfl) (by kernel_rfl) (fun _ _ _ h => h) (Or.inl ⟨by rfl, by intro W hW; clear hW; go_simp⟩) hHeld ?_
      simp only [put_laws]
      refine take_z 4 16 (.bool x.e.com) rfl rfl (by kernel_rfl) (by kernel_rfl) (by kernel_rfl) (by kernel_rfl) (fun _ _ _ h => h) (Or.inl ⟨by rfl, by intro W hW; have hc := hW.box.c1; clear hW; go_simp⟩) hHeld ?_
      simp only [put_laws]
      refine take_z 5 17 (.pointer (some ⟨wr.heap.size, 2, none⟩)) rfl rfl (by kernel_rfl) (by kernel_rfl) (by kernel_rfl) (by kernel_rfl) (fun _ _ _ h => h) (Or.inl ⟨by rfl, by intro W hW; clear hW; go_simp⟩) hHeld ?_
      simp only [put_laws]
      refine take_z 6 18 (.bool x.e.ovr) rfl rfl (by kernel_rfl) (by kernel_rfl) (by kernel_rfl) (by kernel_rfl) (fun _ _ _ h => h) (Or.inl ⟨by rfl, by intro W hW; have hc := hW.box.c2; clear hW; go_simp⟩) hHeld ?_
      simp only [put_laws]
      refine take_z 7 19 (.pointer (some ⟨wr.heap.size, 3, none⟩)) rfl rfl (by kernel_rfl) (by kernel_rfl) (by kernel_rfl) (by kernel_rfl) (fun _ _ _ h => h) (Or.inl ⟨by rfl, by intro W hW; clear hW; go_simp⟩) hHeld ?_
      simp only [put_laws]
      refine take_z 8 20 (.slice x.A x.e.rd.length x.c) rfl rfl (by kernel_rfl) (by kernel_rfl) (by kernel_rfl) (by kernel_rfl) (fun _ _ _ h => h) (Or.inl ⟨by rfl, by intro W hW; have hc := hW.box.c3; clear hW; go_simp⟩) hHeld ?_
      simp only [put_laws]
      refine take_z 10 22 (.pointer (some ⟨wr.heap.size, 4, none⟩)) rfl rfl (by kernel_rfl) (by kernel_rfl) (by kernel_rfl) (by kernel_rfl) (fun _ _ _ h => h) (Or.inl ⟨by rfl, by intro W hW; clear hW; go_simp⟩) hHeld ?_
      simp only [put_laws]
      refine take_z 11 23 (.slice x.B x.e.wt.length x.d) rfl rfl (by kernel_rfl) (by kernel_rfl) (by kernel_rfl) (by kernel_rfl) (fun _ _ _ h => h) (Or.inl ⟨by rfl, by intro W hW; have hc := hW.box.c4; clear hW; go_simp⟩) hHeld ?_
      simp only [put_laws]
      refine anyZ_ready (rs := [9]) (by kernel_rfl) (by simp) ?_
      refine AllZ.cons rfl (fun K hK => ?_) AllZ.nil
      go_simp
      refine (ours_any x.A x.c x.e.rd _ ((HX.out.below hHeld.bel (Nat.le_refl _)).rd.at_) HF.out.1).mono ?_
      rintro e w2 ⟨v2, rfl, ho2, hb⟩
      try go_simp
      have hPrev := hHeld
      have hHeld := hHeld.below hb
      obtain ⟨A1, c1, rfl, hs1, hf1⟩ := ho2.slf
      clear ho2
      have hf1 : Fr wr.heap.size A1 := hf1.mono (Nat.le_of_lt hPrev.box.lt)
      have hO := hO.below hb
      clear hPrev
      refine hK.out _ _ hHeld (fun hHeld => ?_)
      clear hK K
      refine anyZ_ready (rs := [12]) (by kernel_rfl) (by simp) ?_
      refine AllZ.cons rfl (fun K hK => ?_) AllZ.nil
      go_simp
      refine (ours_any x.B x.d x.e.wt _ ((HX.out.below hHeld.bel (Nat.le_refl _)).wt.at_) HF.out.2).mono ?_
      rintro e w3 ⟨v2, rfl, ho2, hb⟩
      try go_simp
      have hPrev := hHeld
      have hHeld := hHeld.below hb
      obtain ⟨B1, d1, rfl, hs2, hf2⟩ := ho2.slf
      clear ho2
      have hf2 : Fr wr.heap.size B1 := hf2.mono (Nat.le_of_lt hPrev.box.lt)
      have hO := hO.below hb
      have hs1 := hs1.below hb
      clear hPrev
      refine hK.out _ _ hHeld (fun hHeld => ?_)
      clear hK K
      refine take_z 13 25 (.agg #[.int .i64 x.e.id, .bool x.e.com, .bool x.e.ovr, .slice A1 x.e.rd.length c1, .slice B1 x.e.wt.length d1]) rfl rfl (by kernel_rfl) (by kernel_rfl) (by kernel_rfl) (by kernel_rfl) (fun _ _ _ h => h) (Or.inl ⟨by rfl, by intro W hW; clear hW; go_simp⟩) hHeld ?_
      simp only [put_laws]
      refine anyZ_ready (rs := [14]) (by kernel_rfl) (by simp) ?_
      refine AllZ.cons rfl (fun K hK => ?_) AllZ.nil
      go_simp
      have hN : Rn.At encX (w3.alloc (.cells #[.int .i64 x.e.id, .bool x.e.com, .bool x.e.ovr, .slice A1 x.e.rd.length c1, .slice B1 x.e.wt.length d1] 77)) (some ⟨w3.heap.size, 0, none⟩) [⟨x.e, A1, c1, B1, d1⟩] := Rn.At.new _ _ #[.int .i64 x.e.id, .bool x.e.com, .bool x.e.ovr, .slice A1 x.e.rd.length c1, .slice B1 x.e.wt.length d1] rfl _ rfl
      have hPrev := hHeld
      have hHeld := hHeld.below (Tx.below_new w3 (.cells #[.int .i64 x.e.id, .bool x.e.com, .bool x.e.ovr, .slice A1 x.e.rd.length c1, .slice B1 x.e.wt.length d1] 77))
      have hO := hO.below (Tx.below_new w3 (.cells #[.int .i64 x.e.id, .bool x.e.com, .bool x.e.ovr, .slice A1 x.e.rd.length c1, .slice B1 x.e.wt.length d1] 77))
      have hs1 := hs1.below (Tx.below_new w3 (.cells #[.int .i64 x.e.id, .bool x.e.com, .bool x.e.ovr, .slice A1 x.e.rd.length c1, .slice B1 x.e.wt.length d1] 77))
      have hs2 := hs2.below (Tx.below_new w3 (.cells #[.int .i64 x.e.id, .bool x.e.com, .bool x.e.ovr, .slice A1 x.e.rd.length c1, .slice B1 x.e.wt.length d1] 77))
      generalize (w3.alloc (.cells #[.int .i64 x.e.id, .bool x.e.com, .bool x.e.ovr, .slice A1 x.e.rd.length c1, .slice B1 x.e.wt.length d1] 77)) = w4 at *
      clear hPrev
      refine hK.out _ _ hHeld (fun hHeld => ?_)
      clear hK K
      refine anyZ_ready (rs := [15]) (by kernel_rfl) (by simp) ?_
      refine AllZ.cons rfl (fun K hK => ?_) AllZ.nil
      have hOff : Off u3.ownBlock (⟨x.e, A1, c1, B1, d1⟩ : Xc) := off_fresh (n := wr.heap.size) HO.out.row (Nat.le_refl _) hf1 hf2
      refine step_append_rowG encX vtY rfl (.tmp 12) (.tmp 26) rfl rfl hO.row _ _ [⟨x.e, A1, c1, B1, d1⟩] rfl rfl hN (by simp) (by have := HXL.out; simp; omega) hHeld.le ?_
      intro v5 w5 hr5 hg5 hl5
      have hOG := OwnI.snoc hO ⟨hs1, hs2⟩ hOff hr5 hg5 hl5
      have hPrev := hHeld
      have hHeld : ESt wr.heap.size w.heap.size 67 x w w5 := hPrev.grown hg5 (by intro e; have := (own_lt HO.out.row e).2; omega) (grown_below hO.row hg5 hPrev.le)
      clear hPrev hr5 hg5 hl5 hN hO hs1 hs2 hf1 hf2
      refine hK.out _ _ hHeld (fun hHeld => ?_)
      clear hK K
      refine anyZ_ready (rs := [16]) (by kernel_rfl) (by simp) ?_
      refine AllZ.last rfl rfl (fun K hK => ?_)
      go_simp
      refine hK.out _ _ ?_
      clear hK K
      refine anyZ_done (by kernel_rfl) ?_ _
      refine NoPanic.normal ?_
      have HOG := Lib.hid hOG
      have HEG := Lib.hid hHeld
      clear hOG hHeld
      go_wp2
      go_round
      case rel => exact ⟨k + 1, X ++ [⟨x.e, A1, c1, B1, d1⟩], by omega, by go_num, by rw [Rn.step_take HLK.out]; exact HOG.out, HEG.out.bel⟩
      case measure => simp [intOf]; omega
    · have hlt' : ¬ (k : Int) < (L.length : Int) := by omega
      go_wp2
      go_ret
      have := HO.out
      rw [List.take_of_length_le (by omega)] at this
      exact ⟨_, _, rfl, this, HB.out⟩
end Go.Proofs.Ytcfdndppkpjleaa.Rp
