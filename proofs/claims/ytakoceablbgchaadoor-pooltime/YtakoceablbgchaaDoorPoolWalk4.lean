/-
  The contract of pool.Edge, where the edge is there then.
-/
import Derived.Test.YtakoceablbgchaaDoorPoolWalk3
namespace Go.Proofs.YtakoceablbgchaaDoor
open Go.RowKit
attribute [local go_sem ↓] Go.wp_at_zero Go.wp_at_succ
set_option maxHeartbeats 2000000 in
set_option maxRecDepth 100000 in
theorem edge_yes (p : Pl) (a b : Int) (w : World) (hp : p.Ok) (ha : -9223372036854775808 ≤ a ∧ a ≤ 9223372036854775807) (hb : -9223372036854775808 ≤ b ∧ b ≤ 9223372036854775807) (hab : a ≠ b) (h1 : Po.taken p a = true) (h2 : Po.taken p b = true) (h3 : (Od.insert p.m p.o a b).2.2 = true) (hT : TabAt w) :
    Calls Tryd.prog 26 #[.agg (poolA p), .int .i64 a, .int .i64 b] w fun e w' => e = .returned (.tuple #[.agg (poolA (Po.over p ((Od.insert p.m p.o a b).1, (Od.insert p.m p.o a b).2.1))), .int .i64 0]) ∧ Below w.heap.size w w' := by
  have hz := (zero_of_info zero_pool_info).1
  have H0 := Lib.hid (qst_first p 31 w)
  have HP := Lib.hid hp
  have HA := Lib.hid h1
  have HB := Lib.hid h2
  have HR := Lib.hid h3
  have HT := Lib.hid hT
  clear hp h1 h2 h3 hT
  go_enter Tryd.func26, Tryd.ntmps26
  go_wp2_with (refine load_pool rfl 31 (.tmp 3) rfl w.heap.size p 31 rfl _ H0.out.po Tryd.underlying31 rfl pool_info ?_)
  refine (taken_val p a true _ HP.out.live HP.out.done ha.1 ha.2 HA.out).mono ?_
  rintro e w1 ⟨rfl, hb1⟩
  have H1 := Lib.hid (H0.out.below hb1)
  clear hb1 H0
  go_wp2_with (refine load_pool rfl 31 (.tmp 3) rfl w.heap.size p 31 rfl _ H1.out.po Tryd.underlying31 rfl pool_info ?_)
  refine (taken_val p b true _ HP.out.live HP.out.done hb.1 hb.2 HB.out).mono ?_
  rintro e w2 ⟨rfl, hb2⟩
  have H2 := Lib.hid (H1.out.below hb2)
  clear hb2 H1
  go_wp2_with (first
    | (refine load_m rfl 27 (.tmp 27) rfl w.heap.size p 31 rfl _ H2.out.po Tryd.underlying27 rfl mat_info ?_)
    | (refine load_o rfl 29 (.tmp 29) rfl w.heap.size p 31 rfl _ H2.out.po Tryd.underlying29 rfl ord_info ?_))
  refine (insert_any p.m p.o a b _ HP.out.m HP.out.o ha hb (tab_keep HT.out H2.out.bel)).mono ?_
  rintro e w3 ⟨rfl, hb3⟩
  have H3 := Lib.hid (H2.out.below hb3)
  have HW := Lib.hid (show w.heap.size + 2 ≤ w3.heap.size from H3.out.re.lt)
  clear hb3 H2
  rw [HR.out]
  generalize hX : (Od.insert p.m p.o a b).1 = X
  generalize hO : (Od.insert p.m p.o a b).2.1 = O
  have HX := Lib.hid hX
  have HO := Lib.hid hO
  clear hX hO
  go_wp2_with (refine wpList_let2 rfl rfl 27 29 (.tmp 8) (.tmp 34) (.tmp 9) (.tmp 35) rfl rfl rfl rfl w3 X O rfl rfl rfl rfl rfl rfl rfl mat_info ord_info ?_; intro w4 hM hO hB; have H4 := Lib.hid (H3.out.below hB); have HM := Lib.hid hM; have HO4 := Lib.hid hO; clear hM hO hB H3)
  refine wp_region_noPanic ?_
  refine region_start (S := ESt 31 27 29 w zeroP w3.heap.size X O) 6 rfl (by kernel_rfl) (⟨⟨p, H4.out.below (below_drew _)⟩, HM.out.below (below_drew _), HO4.out.below (below_drew _)⟩) (fun hHeld => ?_)
  have HQ := Lib.hid (H4.out.below (below_drew _))
  refine take_at 0 40 (.agg (matA X)) rfl rfl (by kernel_rfl) (by kernel_rfl) (by kernel_rfl) (fun _ _ _ h => h) (yields_row (by rfl) 27 (.tmp 8) rfl (w3.heap.size) rfl 27 (matA X) (fun W h => h.2.1) Tryd.underlying27 (matInfo _)) hHeld ?_
  simp only [put_laws]
  refine take_at 1 41 (.agg (ordA O)) rfl rfl (by kernel_rfl) (by kernel_rfl) (by kernel_rfl) (fun _ _ _ h => h) (yields_row (by rfl) 29 (.tmp 9) rfl (w3.heap.size + 1) rfl 29 (ordA O) (fun W h => h.2.2) Tryd.underlying29 (ordInfo _)) hHeld ?_
  simp only [put_laws]
  refine take_at 2 42 (.pointer (some ⟨w.heap.size, 1, none⟩)) rfl rfl (by kernel_rfl) (by kernel_rfl) (by kernel_rfl) (fun _ _ _ h => h) (Or.inl ⟨by rfl, by intro W hW; clear hW; go_simp⟩) hHeld ?_
  simp only [put_laws]
  refine wpAnyH_ready (rs := [3]) (by kernel_rfl) (by simp) ?_
  refine AllReadyH.cons rfl (fun K hK => ?_) AllReadyH.nil
  refine step_store_m (by rfl) 27 (.tmp 42) (.tmp 40) (by rfl) w.heap.size p X 31 (by rfl) (by rfl) HQ.out.po mat_info ?_
  have HQ2 := Lib.hid (HQ.out.put_m X)
  have hHeld : ESt 31 27 29 w zeroP w3.heap.size X O _ := ⟨⟨_, HQ2.out⟩, (heap_setCells_other _ _ (by have := HW.out; omega) _ _ _).trans hHeld.2.1, (heap_setCells_other _ _ (by have := HW.out; omega) _ _ _).trans hHeld.2.2⟩
  refine hK.out _ _ hHeld (fun hHeld => ?_)
  clear hK K
  generalize w4.drew.setCells w.heap.size 1 (matA X).toList = w5 at *
  refine take_at 4 43 (.pointer (some ⟨w.heap.size, 33, none⟩)) rfl rfl (by kernel_rfl) (by kernel_rfl) (by kernel_rfl) (fun _ _ _ h => h) (Or.inl ⟨by rfl, by intro W hW; clear hW; go_simp⟩) hHeld ?_
  simp only [put_laws]
  refine wpAnyH_ready (rs := [5]) (by kernel_rfl) (by simp) ?_
  refine AllReadyH.cons rfl (fun K hK => ?_) AllReadyH.nil
  refine step_store_o (by rfl) 29 (.tmp 43) (.tmp 41) (by rfl) w.heap.size { p with m := X } O 31 (by rfl) (by rfl) HQ2.out.po ord_info ?_
  have HQ3 := Lib.hid (HQ2.out.put_o O)
  have hHeld : ESt 31 27 29 w zeroP w3.heap.size X O _ := ⟨⟨_, HQ3.out⟩, (heap_setCells_other _ _ (by have := HW.out; omega) _ _ _).trans hHeld.2.1, (heap_setCells_other _ _ (by have := HW.out; omega) _ _ _).trans hHeld.2.2⟩
  refine hK.out _ _ hHeld (fun hHeld => ?_)
  clear hK K hHeld
  refine wpAnyH_done (by kernel_rfl) ?_ _
  refine NoPanic.normal ?_
  generalize (w5.setCells w.heap.size 33 (ordA O).toList) = w6 at *
  go_wp2_with (first
    | (refine load_pool rfl 31 (.tmp 3) rfl w.heap.size (Po.over p (X, O)) 31 rfl _ HQ3.out.po Tryd.underlying31 rfl pool_info ?_)
    | (refine store_pool rfl 31 (.tmp 6) (.tmp 44) rfl rfl (w.heap.size + 1) _ (Po.over p (X, O)) 31 rfl rfl HQ3.out.re pool_info ?_))
  refine bodyPost_ret (results_pool rfl _ _ (w.heap.size + 1) 31 (Po.over p (X, O)) _ (.int .i64 0) rfl rfl (HQ3.out.tell _).re Tryd.underlying31 rfl pool_info) rfl ⟨by rw [HX.out, HO.out], (HQ3.out.tell _).bel⟩
theorem edge_any (p : Pl) (a b : Int) (w : World) (hp : p.Ok) (ha : -9223372036854775808 ≤ a ∧ a ≤ 9223372036854775807) (hb : -9223372036854775808 ≤ b ∧ b ≤ 9223372036854775807) (hT : TabAt w) :
    Calls Tryd.prog 26 #[.agg (poolA p), .int .i64 a, .int .i64 b] w fun e w' => e = .returned (.tuple #[.agg (poolA (Po.edge p a b).1), .int .i64 (Po.edge p a b).2]) ∧ Below w.heap.size w w' := by
  unfold Po.edge
  by_cases hab : a = b
  · subst hab; rw [if_pos rfl]; exact edge_arg p a w
  rw [if_neg hab]
  cases h1 : Po.taken p a
  · rw [if_pos (.inl rfl)]; exact edge_none1 p a b w hp ha hb hab h1
  cases h2 : Po.taken p b
  · rw [if_pos (.inr rfl)]; exact edge_none2 p a b w hp ha hb hab h1 h2
  rw [if_neg (by simp)]
  cases h3 : (Od.insert p.m p.o a b).2.2
  · exact edge_cycle p a b w hp ha hb hab h1 h2 h3 hT
  · exact edge_yes p a b w hp ha hb hab h1 h2 h3 hT
end Go.Proofs.YtakoceablbgchaaDoor
