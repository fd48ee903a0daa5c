/-
  The contract of the document's own Insert, but where the edge goes down.
-/
import Derived.Test.YtakoceablbgchaaDoorTopoRef2
import Derived.Test.YtakoceablbgchaaDoorTopoIns2
namespace Go.Proofs.YtakoceablbgchaaDoor
open Go.RowKit
attribute [local go_sem ↓] Go.wp_at_zero Go.wp_at_succ
theorem rput_not (m : Mm.Gr) (a b : Int) (w : World) (ha : -9223372036854775808 ≤ a ∧ a ≤ 9223372036854775807) (hb : -9223372036854775808 ≤ b ∧ b ≤ 9223372036854775807) (h : ¬ Od.May a b) :
    Calls Tryd.prog 71 #[.agg (matA m), .int .i64 a, .int .i64 b] w fun e w' => e = .returned (.tuple #[.agg (matA m), .bool false]) ∧ Below w.heap.size w w' := by
  rcases not_may ha hb h with h | ⟨x, rfl, hx, h⟩ | ⟨x, rfl, rfl, hx⟩
  · exact rput_no1 m a b w h
  · exact rput_no2 m x b w hx h
  · exact rput_no3 m x w hx
set_option maxHeartbeats 4000000 in
set_option maxRecDepth 100000 in
theorem rinsert_bad_yes (m : Mm.Gr) (o : Od.O) (a b : Int) (w : World) (hm : Mm.Ok m) (ha : -9223372036854775808 ≤ a ∧ a ≤ 9223372036854775807) (hb : -9223372036854775808 ≤ b ∧ b ≤ 9223372036854775807) (h : ¬ Od.May a b) (hs : Od.sortedB m o = true) (hT : TabAt w) :
    Calls Tryd.prog 55 #[.agg (matA m), .agg (ordA o), .int .i64 a, .int .i64 b] w fun e w' => e = .returned (.tuple #[.agg (matA m), .agg (ordA o), .bool false]) ∧ Below w.heap.size w w' := by
  have HM := Lib.hid h
  have HSB := Lib.hid hs
  clear h hs
  have HT := Lib.hid (ist_first 35 36 m o hT)
  clear hT
  go_enter Tryd.func55, Tryd.ntmps55
  go_wp2_with (refine wpList_load_row rfl 35 (.tmp 4) rfl w.heap.size rfl 35 (matA m) (0, 0) _ HT.out.gr Tryd.underlying35 rfl (rmatInfo m) ?_)
  refine (rput_not m a b _ ha hb HM.out).mono ?_
  rintro e w1 ⟨rfl, hb1⟩
  have H1 := Lib.hid (iw_first (n := m) HT.out hb1)
  clear hb1 HT
  go_wp2_with (first
    | (refine wpList_store_row rfl 35 (.tmp 11) (.tmp 27) rfl w1.heap.size (matA m) rfl rfl 35 _ (heap_alloc_new _ _) (rmatInfo _) (by rw [matA_size]; rfl) (matA_one _) ?_; rw [World.setRow_alloc_new])
    | (refine wpList_load_row rfl 35 (.tmp 4) rfl w.heap.size rfl 35 (matA m) (0, 0) _ H1.out.st.gr Tryd.underlying35 rfl (rmatInfo _) ?_)
    | (refine wpList_load_row rfl 36 (.tmp 5) rfl (w.heap.size + 1) rfl 36 (ordA o) (0, 0) _ H1.out.st.od Tryd.underlying36 rfl (rordInfo _) ?_))
  refine (rsorted_val m o true _ hm HSB.out).mono ?_
  rintro e w2 ⟨rfl, hb2⟩
  have H2 := Lib.hid (H1.out.below hb2)
  clear hb2 H1
  go_wp2
  refine wp_region_noPanic ?_
  refine region_start (S := ISt 35 36 w m o) 5 rfl (by kernel_rfl) (H2.out.st.drew) (fun hHeld => ?_)
  refine take_at 0 37 (.agg (matA m)) rfl rfl (by kernel_rfl) (by kernel_rfl) (by kernel_rfl) (fun _ _ _ h => h) (yields_row (by rfl) 35 (.tmp 4) rfl (w.heap.size) rfl 35 (matA m) (fun W h => h.gr) Tryd.underlying35 (rmatInfo _)) hHeld ?_
  simp only [put_laws]
  refine take_at 1 38 (.agg (ordA o)) rfl rfl (by kernel_rfl) (by kernel_rfl) (by kernel_rfl) (fun _ _ _ h => h) (yields_row (by rfl) 36 (.tmp 5) rfl (w.heap.size + 1) rfl 36 (ordA o) (fun W h => h.od) Tryd.underlying36 (rordInfo _)) hHeld ?_
  simp only [put_laws]
  refine wpAnyH_ready (rs := [2]) (by kernel_rfl) (by simp) ?_
  refine AllReadyH.cons rfl (fun K hK => ?_) AllReadyH.nil
  obtain ⟨old, hold⟩ := hHeld.rg
  refine step_store_row (by rfl) 35 (.tmp 8) (.tmp 37) (by rfl) (w.heap.size + 2) (matA m) (by rfl) (by rfl) 35 _ hold (rmatInfo _) (by rw [matA_size, matA_size]) (matA_one _) ?_
  clear hold
  obtain ⟨hHeld, hRG⟩ := hHeld.setG (n := m)
  refine hK.out _ _ hHeld (fun hHeld => ?_)
  clear hK K
  refine wpAnyH_ready (rs := [3]) (by kernel_rfl) (by simp) ?_
  refine AllReadyH.cons rfl (fun K hK => ?_) AllReadyH.nil
  obtain ⟨old, hold⟩ := hHeld.ro
  refine step_store_row (by rfl) 36 (.tmp 9) (.tmp 38) (by rfl) (w.heap.size + 3) (ordA o) (by rfl) (by rfl) 36 _ hold (rordInfo _) (by rw [ordA_size, ordA_size]) (ordA_one _) ?_
  clear hold
  have hRG := hRG.setRow (k := w.heap.size + 3) (ordA o) (by omega)
  obtain ⟨hHeld, hRO⟩ := hHeld.setO (q := o)
  refine hK.out _ _ hHeld (fun hHeld => ?_)
  clear hK K
  refine take_at 4 10 (.bool false) rfl rfl (by kernel_rfl) (by kernel_rfl) (by kernel_rfl) (fun _ _ _ h => h) (Or.inl ⟨by rfl, by intro W hW; clear hW; go_simp⟩) hHeld ?_
  simp only [put_laws]
  refine wpAnyH_done (by kernel_rfl) ?_ _
  refine NoPanic.normal ?_
  go_wp2
  have hEnd := hHeld.bel
  refine bodyPost_ret (results_three rfl _ _ (w.heap.size + 2) (w.heap.size + 3) 35 36 (matA m) (ordA o) _ _ _ _ (.bool false) rfl rfl rfl hRG hRO Tryd.underlying35 Tryd.underlying36 (rmatInfo _) (rordInfo _)) rfl ⟨rfl, hEnd⟩
set_option maxHeartbeats 4000000 in
set_option maxRecDepth 100000 in
theorem rinsert_bad_no (m : Mm.Gr) (o : Od.O) (a b : Int) (w : World) (hm : Mm.Ok m) (ha : -9223372036854775808 ≤ a ∧ a ≤ 9223372036854775807) (hb : -9223372036854775808 ≤ b ∧ b ≤ 9223372036854775807) (h : ¬ Od.May a b) (hs : Od.sortedB m o = false) (hT : TabAt w) :
    Calls Tryd.prog 55 #[.agg (matA m), .agg (ordA o), .int .i64 a, .int .i64 b] w fun e w' => e = .returned (.tuple #[.agg (matA m), .agg (ordA o), .bool false]) ∧ Below w.heap.size w w' := by
  have HM := Lib.hid h
  have HSB := Lib.hid hs
  clear h hs
  have HT := Lib.hid (ist_first 35 36 m o hT)
  clear hT
  go_enter Tryd.func55, Tryd.ntmps55
  go_wp2_with (refine wpList_load_row rfl 35 (.tmp 4) rfl w.heap.size rfl 35 (matA m) (0, 0) _ HT.out.gr Tryd.underlying35 rfl (rmatInfo m) ?_)
  refine (rput_not m a b _ ha hb HM.out).mono ?_
  rintro e w1 ⟨rfl, hb1⟩
  have H1 := Lib.hid (iw_first (n := m) HT.out hb1)
  clear hb1 HT
  go_wp2_with (first
    | (refine wpList_store_row rfl 35 (.tmp 11) (.tmp 27) rfl w1.heap.size (matA m) rfl rfl 35 _ (heap_alloc_new _ _) (rmatInfo _) (by rw [matA_size]; rfl) (matA_one _) ?_; rw [World.setRow_alloc_new])
    | (refine wpList_load_row rfl 35 (.tmp 4) rfl w.heap.size rfl 35 (matA m) (0, 0) _ H1.out.st.gr Tryd.underlying35 rfl (rmatInfo _) ?_)
    | (refine wpList_load_row rfl 36 (.tmp 5) rfl (w.heap.size + 1) rfl 36 (ordA o) (0, 0) _ H1.out.st.od Tryd.underlying36 rfl (rordInfo _) ?_))
  refine (rsorted_val m o false _ hm HSB.out).mono ?_
  rintro e w2 ⟨rfl, hb2⟩
  have H2 := Lib.hid (H1.out.below hb2)
  clear hb2 H1
  go_wp2
  refine wp_region_noPanic ?_
  refine region_start (S := ISt 35 36 w m o) 5 rfl (by kernel_rfl) (H2.out.st.drew) (fun hHeld => ?_)
  refine take_at 0 37 (.agg (matA m)) rfl rfl (by kernel_rfl) (by kernel_rfl) (by kernel_rfl) (fun _ _ _ h => h) (yields_row (by rfl) 35 (.tmp 4) rfl (w.heap.size) rfl 35 (matA m) (fun W h => h.gr) Tryd.underlying35 (rmatInfo _)) hHeld ?_
  simp only [put_laws]
  refine take_at 1 38 (.agg (ordA o)) rfl rfl (by kernel_rfl) (by kernel_rfl) (by kernel_rfl) (fun _ _ _ h => h) (yields_row (by rfl) 36 (.tmp 5) rfl (w.heap.size + 1) rfl 36 (ordA o) (fun W h => h.od) Tryd.underlying36 (rordInfo _)) hHeld ?_
  simp only [put_laws]
  refine wpAnyH_ready (rs := [2]) (by kernel_rfl) (by simp) ?_
  refine AllReadyH.cons rfl (fun K hK => ?_) AllReadyH.nil
  obtain ⟨old, hold⟩ := hHeld.rg
  refine step_store_row (by rfl) 35 (.tmp 8) (.tmp 37) (by rfl) (w.heap.size + 2) (matA m) (by rfl) (by rfl) 35 _ hold (rmatInfo _) (by rw [matA_size, matA_size]) (matA_one _) ?_
  clear hold
  obtain ⟨hHeld, hRG⟩ := hHeld.setG (n := m)
  refine hK.out _ _ hHeld (fun hHeld => ?_)
  clear hK K
  refine wpAnyH_ready (rs := [3]) (by kernel_rfl) (by simp) ?_
  refine AllReadyH.cons rfl (fun K hK => ?_) AllReadyH.nil
  obtain ⟨old, hold⟩ := hHeld.ro
  refine step_store_row (by rfl) 36 (.tmp 9) (.tmp 38) (by rfl) (w.heap.size + 3) (ordA o) (by rfl) (by rfl) 36 _ hold (rordInfo _) (by rw [ordA_size, ordA_size]) (ordA_one _) ?_
  clear hold
  have hRG := hRG.setRow (k := w.heap.size + 3) (ordA o) (by omega)
  obtain ⟨hHeld, hRO⟩ := hHeld.setO (q := o)
  refine hK.out _ _ hHeld (fun hHeld => ?_)
  clear hK K
  refine take_at 4 10 (.bool false) rfl rfl (by kernel_rfl) (by kernel_rfl) (by kernel_rfl) (fun _ _ _ h => h) (Or.inl ⟨by rfl, by intro W hW; clear hW; go_simp⟩) hHeld ?_
  simp only [put_laws]
  refine wpAnyH_done (by kernel_rfl) ?_ _
  refine NoPanic.normal ?_
  go_wp2
  have hEnd := hHeld.bel
  refine bodyPost_ret (results_three rfl _ _ (w.heap.size + 2) (w.heap.size + 3) 35 36 (matA m) (ordA o) _ _ _ _ (.bool false) rfl rfl rfl hRG hRO Tryd.underlying35 Tryd.underlying36 (rmatInfo _) (rordInfo _)) rfl ⟨rfl, hEnd⟩
set_option maxHeartbeats 4000000 in
set_option maxRecDepth 100000 in
theorem rinsert_unsorted (m : Mm.Gr) (o : Od.O) (a b : Nat) (w : World) (hm : Mm.Ok m) (ha : a < 32) (hb : b < 32) (hab : a ≠ b) (hs : ¬ Od.Sorted m o) (hT : TabAt w) :
    Calls Tryd.prog 55 #[.agg (matA m), .agg (ordA o), .int .i64 (a : Nat), .int .i64 (b : Nat)] w fun e w' => e = .returned (.tuple #[.agg (matA m), .agg (ordA o), .bool false]) ∧ Below w.heap.size w w' := by
  have HSB := Lib.hid (Od.sortedB_no hs)
  clear hs
  have HT := Lib.hid (ist_first 35 36 m o hT)
  clear hT
  go_enter Tryd.func55, Tryd.ntmps55
  go_wp2_with (refine wpList_load_row rfl 35 (.tmp 4) rfl w.heap.size rfl 35 (matA m) (0, 0) _ HT.out.gr Tryd.underlying35 rfl (rmatInfo m) ?_)
  refine (rput_yes m a b _ hm ha hb hab).mono ?_
  rintro e w1 ⟨rfl, hb1⟩
  have H1 := Lib.hid (iw_first (n := (Mm.put m a b)) HT.out hb1)
  clear hb1 HT
  go_wp2_with (first
    | (refine wpList_store_row rfl 35 (.tmp 11) (.tmp 27) rfl w1.heap.size (matA (Mm.put m a b)) rfl rfl 35 _ (heap_alloc_new _ _) (rmatInfo _) (by rw [matA_size]; rfl) (matA_one _) ?_; rw [World.setRow_alloc_new])
    | (refine wpList_load_row rfl 35 (.tmp 4) rfl w.heap.size rfl 35 (matA m) (0, 0) _ H1.out.st.gr Tryd.underlying35 rfl (rmatInfo _) ?_)
    | (refine wpList_load_row rfl 36 (.tmp 5) rfl (w.heap.size + 1) rfl 36 (ordA o) (0, 0) _ H1.out.st.od Tryd.underlying36 rfl (rordInfo _) ?_))
  refine (rsorted_val m o false _ hm HSB.out).mono ?_
  rintro e w2 ⟨rfl, hb2⟩
  have H2 := Lib.hid (H1.out.below hb2)
  clear hb2 H1
  go_wp2
  refine wp_region_noPanic ?_
  refine region_start (S := ISt 35 36 w m o) 5 rfl (by kernel_rfl) (H2.out.st.drew) (fun hHeld => ?_)
  refine take_at 0 37 (.agg (matA m)) rfl rfl (by kernel_rfl) (by kernel_rfl) (by kernel_rfl) (fun _ _ _ h => h) (yields_row (by rfl) 35 (.tmp 4) rfl (w.heap.size) rfl 35 (matA m) (fun W h => h.gr) Tryd.underlying35 (rmatInfo _)) hHeld ?_
  simp only [put_laws]
  refine take_at 1 38 (.agg (ordA o)) rfl rfl (by kernel_rfl) (by kernel_rfl) (by kernel_rfl) (fun _ _ _ h => h) (yields_row (by rfl) 36 (.tmp 5) rfl (w.heap.size + 1) rfl 36 (ordA o) (fun W h => h.od) Tryd.underlying36 (rordInfo _)) hHeld ?_
  simp only [put_laws]
  refine wpAnyH_ready (rs := [2]) (by kernel_rfl) (by simp) ?_
  refine AllReadyH.cons rfl (fun K hK => ?_) AllReadyH.nil
  obtain ⟨old, hold⟩ := hHeld.rg
  refine step_store_row (by rfl) 35 (.tmp 8) (.tmp 37) (by rfl) (w.heap.size + 2) (matA m) (by rfl) (by rfl) 35 _ hold (rmatInfo _) (by rw [matA_size, matA_size]) (matA_one _) ?_
  clear hold
  obtain ⟨hHeld, hRG⟩ := hHeld.setG (n := m)
  refine hK.out _ _ hHeld (fun hHeld => ?_)
  clear hK K
  refine wpAnyH_ready (rs := [3]) (by kernel_rfl) (by simp) ?_
  refine AllReadyH.cons rfl (fun K hK => ?_) AllReadyH.nil
  obtain ⟨old, hold⟩ := hHeld.ro
  refine step_store_row (by rfl) 36 (.tmp 9) (.tmp 38) (by rfl) (w.heap.size + 3) (ordA o) (by rfl) (by rfl) 36 _ hold (rordInfo _) (by rw [ordA_size, ordA_size]) (ordA_one _) ?_
  clear hold
  have hRG := hRG.setRow (k := w.heap.size + 3) (ordA o) (by omega)
  obtain ⟨hHeld, hRO⟩ := hHeld.setO (q := o)
  refine hK.out _ _ hHeld (fun hHeld => ?_)
  clear hK K
  refine take_at 4 10 (.bool false) rfl rfl (by kernel_rfl) (by kernel_rfl) (by kernel_rfl) (fun _ _ _ h => h) (Or.inl ⟨by rfl, by intro W hW; clear hW; go_simp⟩) hHeld ?_
  simp only [put_laws]
  refine wpAnyH_done (by kernel_rfl) ?_ _
  refine NoPanic.normal ?_
  go_wp2
  have hEnd := hHeld.bel
  refine bodyPost_ret (results_three rfl _ _ (w.heap.size + 2) (w.heap.size + 3) 35 36 (matA m) (ordA o) _ _ _ _ (.bool false) rfl rfl rfl hRG hRO Tryd.underlying35 Tryd.underlying36 (rmatInfo _) (rordInfo _)) rfl ⟨rfl, hEnd⟩
set_option maxHeartbeats 4000000 in
set_option maxRecDepth 100000 in
theorem rinsert_up (m : Mm.Gr) (o : Od.O) (a b : Nat) (w : World) (hm : Mm.Ok m) (ha : a < 32) (hb : b < 32) (hab : a ≠ b) (hs : Od.Sorted m o) (hlt : o a < o b) (hT : TabAt w) :
    Calls Tryd.prog 55 #[.agg (matA m), .agg (ordA o), .int .i64 (a : Nat), .int .i64 (b : Nat)] w fun e w' => e = .returned (.tuple #[.agg (matA (Mm.put m a b)), .agg (ordA o), .bool true]) ∧ Below w.heap.size w w' := by
  have HSB := Lib.hid (Od.sortedB_yes hs)
  clear hs
  have HT := Lib.hid (ist_first 35 36 m o hT)
  clear hT
  go_enter Tryd.func55, Tryd.ntmps55
  go_wp2_with (refine wpList_load_row rfl 35 (.tmp 4) rfl w.heap.size rfl 35 (matA m) (0, 0) _ HT.out.gr Tryd.underlying35 rfl (rmatInfo m) ?_)
  refine (rput_yes m a b _ hm ha hb hab).mono ?_
  rintro e w1 ⟨rfl, hb1⟩
  have H1 := Lib.hid (iw_first (n := (Mm.put m a b)) HT.out hb1)
  clear hb1 HT
  go_wp2_with (first
    | (refine wpList_store_row rfl 35 (.tmp 11) (.tmp 27) rfl w1.heap.size (matA (Mm.put m a b)) rfl rfl 35 _ (heap_alloc_new _ _) (rmatInfo _) (by rw [matA_size]; rfl) (matA_one _) ?_; rw [World.setRow_alloc_new])
    | (refine wpList_load_row rfl 35 (.tmp 4) rfl w.heap.size rfl 35 (matA m) (0, 0) _ H1.out.st.gr Tryd.underlying35 rfl (rmatInfo _) ?_)
    | (refine wpList_load_row rfl 36 (.tmp 5) rfl (w.heap.size + 1) rfl 36 (ordA o) (0, 0) _ H1.out.st.od Tryd.underlying36 rfl (rordInfo _) ?_))
  refine (rsorted_val m o true _ hm HSB.out).mono ?_
  rintro e w2 ⟨rfl, hb2⟩
  have H2 := Lib.hid (H1.out.below hb2)
  clear hb2 H1
  have hc1 := H2.out.st.od.cell a ha
  have hc2 := H2.out.st.od.cell b hb
  go_wp2
  go_quiet (fail)
  have H3 := Lib.hid (H2.out.below (below_drewN (Below.refl _ _) nq))
  clear H2 hc1 hc2
  go_wp2
  refine wp_region_noPanic ?_
  refine region_start (S := IW 35 36 w m o w1.heap.size (Mm.put m a b)) 5 rfl (by kernel_rfl) (H3.out.below (below_drew _)) (fun hHeld => ?_)
  refine take_at 0 46 (.agg (matA (Mm.put m a b))) rfl rfl (by kernel_rfl) (by kernel_rfl) (by kernel_rfl) (fun _ _ _ h => h) (yields_row (by rfl) 35 (.tmp 11) rfl (w1.heap.size) rfl 35 (matA (Mm.put m a b)) (fun W h => h.wi) Tryd.underlying35 (rmatInfo _)) hHeld ?_
  simp only [put_laws]
  refine take_at 1 47 (.agg (ordA o)) rfl rfl (by kernel_rfl) (by kernel_rfl) (by kernel_rfl) (fun _ _ _ h => h) (yields_row (by rfl) 36 (.tmp 5) rfl (w.heap.size + 1) rfl 36 (ordA o) (fun W h => h.st.od) Tryd.underlying36 (rordInfo _)) hHeld ?_
  simp only [put_laws]
  refine wpAnyH_ready (rs := [2]) (by kernel_rfl) (by simp) ?_
  refine AllReadyH.cons rfl (fun K hK => ?_) AllReadyH.nil
  obtain ⟨old, hold⟩ := hHeld.st.rg
  refine step_store_row (by rfl) 35 (.tmp 8) (.tmp 46) (by rfl) (w.heap.size + 2) (matA (Mm.put m a b)) (by rfl) (by rfl) 35 _ hold (rmatInfo _) (by rw [matA_size, matA_size]) (matA_one _) ?_
  clear hold
  have hRG := (hHeld.st.setG (n := (Mm.put m a b))).2
  have hHeld := hHeld.setG (k := (Mm.put m a b))
  refine hK.out _ _ hHeld (fun hHeld => ?_)
  clear hK K
  refine wpAnyH_ready (rs := [3]) (by kernel_rfl) (by simp) ?_
  refine AllReadyH.cons rfl (fun K hK => ?_) AllReadyH.nil
  obtain ⟨old, hold⟩ := hHeld.st.ro
  refine step_store_row (by rfl) 36 (.tmp 9) (.tmp 47) (by rfl) (w.heap.size + 3) (ordA o) (by rfl) (by rfl) 36 _ hold (rordInfo _) (by rw [ordA_size, ordA_size]) (ordA_one _) ?_
  clear hold
  have hRG := hRG.setRow (k := w.heap.size + 3) (ordA o) (by omega)
  have hRO := (hHeld.st.setO (q := o)).2
  have hHeld := hHeld.setO (q := o)
  refine hK.out _ _ hHeld (fun hHeld => ?_)
  clear hK K
  refine take_at 4 10 (.bool true) rfl rfl (by kernel_rfl) (by kernel_rfl) (by kernel_rfl) (fun _ _ _ h => h) (Or.inl ⟨by rfl, by intro W hW; clear hW; go_simp⟩) hHeld ?_
  simp only [put_laws]
  refine wpAnyH_done (by kernel_rfl) ?_ _
  refine NoPanic.normal ?_
  go_wp2
  have hEnd := hHeld.st.bel
  refine bodyPost_ret (results_three rfl _ _ (w.heap.size + 2) (w.heap.size + 3) 35 36 (matA (Mm.put m a b)) (ordA o) _ _ _ _ (.bool true) rfl rfl rfl hRG hRO Tryd.underlying35 Tryd.underlying36 (rmatInfo _) (rordInfo _)) rfl ⟨rfl, hEnd⟩
theorem kept_block {W W' : World} {ob : Obj} (hb : Below (W.alloc ob).heap.size (W.alloc ob) W') : W'.heap[W.heap.size]? = some ob := (hb.block _ (by simp)).trans (heap_alloc_new _ _)
set_option maxHeartbeats 4000000 in
set_option maxRecDepth 100000 in
theorem rinsert_round (m : Mm.Gr) (o : Od.O) (a b : Nat) (w : World) (hm : Mm.Ok m) (ha : a < 32) (hb : b < 32) (hab : a ≠ b) (hs : Od.Sorted m o) (hlt : o b ≤ o a) (hf : (Od.fore m o a b).testBit a = true) (hT : TabAt w) :
    Calls Tryd.prog 55 #[.agg (matA m), .agg (ordA o), .int .i64 (a : Nat), .int .i64 (b : Nat)] w fun e w' => e = .returned (.tuple #[.agg (matA m), .agg (ordA o), .bool false]) ∧ Below w.heap.size w w' := by
  have HSB := Lib.hid (Od.sortedB_yes hs)
  have HF := Lib.hid hf
  have HFe := Lib.hid (near_fore (o := o) (a := a) (b := b) hm)
  have HHe := Lib.hid (near_hind (o := o) (a := a) (b := b) hm)
  have HNk := Lib.hid (nearTo_ok o (o b) (o a) 32 hm)
  have hfl : Od.fore m o a b < 18446744073709551616 := Nat.lt_trans (Od.fore_lt hb) (by decide)
  clear hs hf
  have HT := Lib.hid (ist_first 35 36 m o hT)
  clear hT
  go_enter Tryd.func55, Tryd.ntmps55
  go_wp2_with (refine wpList_load_row rfl 35 (.tmp 4) rfl w.heap.size rfl 35 (matA m) (0, 0) _ HT.out.gr Tryd.underlying35 rfl (rmatInfo m) ?_)
  refine (rput_yes m a b _ hm ha hb hab).mono ?_
  rintro e w1 ⟨rfl, hb1⟩
  have H1 := Lib.hid (iw_first (n := (Mm.put m a b)) HT.out hb1)
  clear hb1 HT
  go_wp2_with (first
    | (refine wpList_store_row rfl 35 (.tmp 11) (.tmp 27) rfl w1.heap.size (matA (Mm.put m a b)) rfl rfl 35 _ (heap_alloc_new _ _) (rmatInfo _) (by rw [matA_size]; rfl) (matA_one _) ?_; rw [World.setRow_alloc_new])
    | (refine wpList_load_row rfl 35 (.tmp 4) rfl w.heap.size rfl 35 (matA m) (0, 0) _ H1.out.st.gr Tryd.underlying35 rfl (rmatInfo _) ?_)
    | (refine wpList_load_row rfl 36 (.tmp 5) rfl (w.heap.size + 1) rfl 36 (ordA o) (0, 0) _ H1.out.st.od Tryd.underlying36 rfl (rordInfo _) ?_))
  refine (rsorted_val m o true _ hm HSB.out).mono ?_
  rintro e w2 ⟨rfl, hb2⟩
  have H2 := Lib.hid (H1.out.below hb2)
  clear hb2 H1
  have hc1 := H2.out.st.od.cell a ha
  have hc2 := H2.out.st.od.cell b hb
  go_wp2
  go_quiet (fail)
  have H3 := Lib.hid (H2.out.below (below_drewN (Below.refl _ _) nq))
  clear H2 hc1 hc2
  go_wp2
  refine wp_region_noPanic ?_
  refine region_start (S := Below (w2.drewN nq).heap.size (w2.drewN nq)) 11 rfl (by kernel_rfl) (below_drew _) (fun hHeld => ?_)
  refine take_at 0 48 (.agg (matA m)) rfl rfl (by kernel_rfl) (by kernel_rfl) (by kernel_rfl) (fun _ _ _ h => h) (yields_row (by rfl) 35 (.tmp 4) rfl (w.heap.size) rfl 35 (matA m) (fun W h => (H3.out.below h).st.gr) Tryd.underlying35 (rmatInfo _)) hHeld ?_
  simp only [put_laws]
  refine take_at 1 49 (.agg (ordA o)) rfl rfl (by kernel_rfl) (by kernel_rfl) (by kernel_rfl) (fun _ _ _ h => h) (yields_row (by rfl) 36 (.tmp 5) rfl (w.heap.size + 1) rfl 36 (ordA o) (fun W h => (H3.out.below h).st.od) Tryd.underlying36 (rordInfo _)) hHeld ?_
  simp only [put_laws]
  refine take_at 2 50 (.int .i64 (b : Nat)) rfl rfl (by kernel_rfl) (by kernel_rfl) (by kernel_rfl) (fun _ _ _ h => h) (Or.inl ⟨by rfl, by intro W hW; clear hW; go_simp⟩) hHeld ?_
  simp only [put_laws]
  refine take_at 3 51 (.pointer (some ⟨w.heap.size + 1, b, none⟩)) rfl rfl (by kernel_rfl) (by kernel_rfl) (by kernel_rfl) (fun _ _ _ h => h) (Or.inl ⟨by rfl, by intro W hW; clear hW; go_simp; try (intro h; omega)⟩) hHeld ?_
  simp only [put_laws]
  refine take_at 4 52 (.int .i64 (o b)) rfl rfl (by kernel_rfl) (by kernel_rfl) (by kernel_rfl) (fun _ _ _ h => h) (Or.inl ⟨by rfl, by intro W hW; have hc := (H3.out.below hW).st.od.cell b hb; clear hW; go_simp⟩) hHeld ?_
  simp only [put_laws]
  refine take_at 5 53 (.int .i64 (a : Nat)) rfl rfl (by kernel_rfl) (by kernel_rfl) (by kernel_rfl) (fun _ _ _ h => h) (Or.inl ⟨by rfl, by intro W hW; clear hW; go_simp⟩) hHeld ?_
  simp only [put_laws]
  refine take_at 6 54 (.pointer (some ⟨w.heap.size + 1, a, none⟩)) rfl rfl (by kernel_rfl) (by kernel_rfl) (by kernel_rfl) (fun _ _ _ h => h) (Or.inl ⟨by rfl, by intro W hW; clear hW; go_simp; try (intro h; omega)⟩) hHeld ?_
  simp only [put_laws]
  refine take_at 7 55 (.int .i64 (o a)) rfl rfl (by kernel_rfl) (by kernel_rfl) (by kernel_rfl) (fun _ _ _ h => h) (Or.inl ⟨by rfl, by intro W hW; have hc := (H3.out.below hW).st.od.cell a ha; clear hW; go_simp⟩) hHeld ?_
  simp only [put_laws]
  refine wpAnyH_ready (rs := [8, 9]) (by kernel_rfl) (by simp) ?_
  refine AllReadyH.cons rfl (fun K hK => ?_) (AllReadyH.cons rfl (fun K hK => ?_) AllReadyH.nil)
  · go_simp
    refine (within_any m o _ _ _ hm).mono ?_
    rintro e w3 ⟨rfl, hb3⟩
    try go_simp
    have hHeld := hHeld.trans (hb3.mono hHeld.size)
    have hKeep := hHeld
    refine hK.out _ _ hHeld (fun hHeld => ?_)
    clear hK K hb3
    refine wpAnyH_ready (rs := [9]) (by kernel_rfl) (by simp) ?_
    refine AllReadyH.cons rfl (fun K hK => ?_) AllReadyH.nil
    go_simp
    refine hK.out _ _ (hHeld.alloc hHeld.size _) (fun hHeld => ?_)
    clear hK K
    refine wpAnyH_ready (rs := [10]) (by kernel_rfl) (by simp) ?_
    refine AllReadyH.cons rfl (fun K hK => ?_) AllReadyH.nil
    refine step_store_row (by rfl) 35 (.tmp 13) (.tmp 56) (by rfl) w3.heap.size (matA (nearTo m o (o b) (o a) 32)) (by rfl) (by rfl) 35 _ (heap_alloc_new _ _) (rmatInfo _) (by rw [matA_size]; rfl) (matA_one _) ?_
    rw [World.setRow_alloc_new]
    have hHeld := hKeep.alloc hKeep.size (.cells (matA (nearTo m o (o b) (o a) 32)) 35)
    have HN := Lib.hid (matAt_new w3 (nearTo m o (o b) (o a) 32) 35)
    refine hK.out _ _ hHeld (fun hHeld => ?_)
    clear hK K hKeep
    refine wpAnyH_done (by kernel_rfl) ?_ _
    refine NoPanic.normal ?_
    have HI := Lib.hid (H3.out.below hHeld)
    clear hHeld H3
    go_wp2_with (refine wpList_load_row rfl 35 (.tmp 13) rfl w3.heap.size rfl 35 (matA (nearTo m o (o b) (o a) 32)) (0, 0) _ HN.out Tryd.underlying35 rfl (rmatInfo _) ?_)
    refine (rreach_in _ b _ HNk.out hb).mono ?_
    rintro e w4 ⟨rfl, hb4⟩
    have HI4 := Lib.hid (HI.out.below hb4)
    have HN4 := Lib.hid (HN.out.below hb4)
    clear hb4 HI HN
    go_wp2_with (first
      | (go_at_call 57; refine (rwith_val _ _ _ _ (Mm.ways_lt _ _) (by omega) HFe.out).mono ?_; rintro e w' ⟨rfl, rfl⟩)
      | (refine wpList_load_row rfl 35 (.tmp 13) rfl w3.heap.size rfl 35 (matA (nearTo m o (o b) (o a) 32)) (0, 0) _ HN4.out Tryd.underlying35 rfl (rmatInfo _) ?_))
    refine (turn_any _ _ HNk.out).mono ?_
    rintro e w5 ⟨rfl, hb5⟩
    have HI5 := Lib.hid (HI4.out.below hb5)
    clear hb5 HI4 HN4
    go_wp2_with fail
    refine (rreach_in _ a _ (turn_ok _) ha).mono ?_
    rintro e w6 ⟨rfl, hb6⟩
    have HI6 := Lib.hid (HI5.out.below hb6)
    clear hb6 HI5
    go_wp2_with (first
      | (go_at_call 57; refine (rwith_val _ _ _ _ (Mm.ways_lt _ _) (by omega) HHe.out).mono ?_; rintro e w' ⟨rfl, rfl⟩)
      | (go_at_call 39; refine (rhasN_val _ _ _ _ hfl (by omega) HF.out).mono ?_; rintro e w' ⟨rfl, rfl⟩))
    refine wp_region_noPanic ?_
    refine region_start (S := ISt 35 36 w m o) 5 rfl (by kernel_rfl) (HI6.out.st.drew) (fun hHeld => ?_)
    refine take_at 0 71 (.agg (matA m)) rfl rfl (by kernel_rfl) (by kernel_rfl) (by kernel_rfl) (fun _ _ _ h => h) (yields_row (by rfl) 35 (.tmp 4) rfl (w.heap.size) rfl 35 (matA m) (fun W h => h.gr) Tryd.underlying35 (rmatInfo _)) hHeld ?_
    simp only [put_laws]
    refine take_at 1 72 (.agg (ordA o)) rfl rfl (by kernel_rfl) (by kernel_rfl) (by kernel_rfl) (fun _ _ _ h => h) (yields_row (by rfl) 36 (.tmp 5) rfl (w.heap.size + 1) rfl 36 (ordA o) (fun W h => h.od) Tryd.underlying36 (rordInfo _)) hHeld ?_
    simp only [put_laws]
    refine wpAnyH_ready (rs := [2]) (by kernel_rfl) (by simp) ?_
    refine AllReadyH.cons rfl (fun K hK => ?_) AllReadyH.nil
    obtain ⟨old, hold⟩ := hHeld.rg
    refine step_store_row (by rfl) 35 (.tmp 8) (.tmp 71) (by rfl) (w.heap.size + 2) (matA m) (by rfl) (by rfl) 35 _ hold (rmatInfo _) (by rw [matA_size, matA_size]) (matA_one _) ?_
    clear hold
    obtain ⟨hHeld, hRG⟩ := hHeld.setG (n := m)
    refine hK.out _ _ hHeld (fun hHeld => ?_)
    clear hK K
    refine wpAnyH_ready (rs := [3]) (by kernel_rfl) (by simp) ?_
    refine AllReadyH.cons rfl (fun K hK => ?_) AllReadyH.nil
    obtain ⟨old, hold⟩ := hHeld.ro
    refine step_store_row (by rfl) 36 (.tmp 9) (.tmp 72) (by rfl) (w.heap.size + 3) (ordA o) (by rfl) (by rfl) 36 _ hold (rordInfo _) (by rw [ordA_size, ordA_size]) (ordA_one _) ?_
    clear hold
    have hRG := hRG.setRow (k := w.heap.size + 3) (ordA o) (by omega)
    obtain ⟨hHeld, hRO⟩ := hHeld.setO (q := o)
    refine hK.out _ _ hHeld (fun hHeld => ?_)
    clear hK K
    refine take_at 4 10 (.bool false) rfl rfl (by kernel_rfl) (by kernel_rfl) (by kernel_rfl) (fun _ _ _ h => h) (Or.inl ⟨by rfl, by intro W hW; clear hW; go_simp⟩) hHeld ?_
    simp only [put_laws]
    refine wpAnyH_done (by kernel_rfl) ?_ _
    refine NoPanic.normal ?_
    go_wp2
    have hEnd := hHeld.bel
    refine bodyPost_ret (results_three rfl _ _ (w.heap.size + 2) (w.heap.size + 3) 35 36 (matA m) (ordA o) _ _ _ _ (.bool false) rfl rfl rfl hRG hRO Tryd.underlying35 Tryd.underlying36 (rmatInfo _) (rordInfo _)) rfl ⟨rfl, hEnd⟩
  · go_simp
    refine hK.out _ _ (hHeld.alloc hHeld.size _) (fun hHeld => ?_)
    clear hK K
    refine wpAnyH_ready (rs := [8]) (by kernel_rfl) (by simp) ?_
    refine AllReadyH.cons rfl (fun K hK => ?_) AllReadyH.nil
    go_simp
    refine (within_any m o _ _ _ hm).mono ?_
    rintro e w3 ⟨rfl, hb3⟩
    try go_simp
    have hHeld := hHeld.trans (hb3.mono hHeld.size)
    have hN0 := kept_block hb3
    refine hK.out _ _ hHeld (fun hHeld => ?_)
    clear hK K hb3
    refine wpAnyH_ready (rs := [10]) (by kernel_rfl) (by simp) ?_
    refine AllReadyH.cons rfl (fun K hK => ?_) AllReadyH.nil
    refine step_store_row (by rfl) 35 (.tmp 13) (.tmp 56) (by rfl) w2.heap.size (matA (nearTo m o (o b) (o a) 32)) (by rfl) (by rfl) 35 _ hN0 (rmatInfo _) (by rw [matA_size]; rfl) (matA_one _) ?_
    have hHeld := setRow_below (cs := matA (nearTo m o (o b) (o a) 32)) hHeld (Nat.le_refl w2.heap.size)
    have HN := Lib.hid (show MatAt (w3.setRow w2.heap.size (matA (nearTo m o (o b) (o a) 32))) w2.heap.size (nearTo m o (o b) (o a) 32) 35 from setRow_heap _ _ _ _ _ _ hN0)
    refine hK.out _ _ hHeld (fun hHeld => ?_)
    clear hK K hN0
    refine wpAnyH_done (by kernel_rfl) ?_ _
    refine NoPanic.normal ?_
    have HI := Lib.hid (H3.out.below hHeld)
    clear hHeld H3
    go_wp2_with (refine wpList_load_row rfl 35 (.tmp 13) rfl w2.heap.size rfl 35 (matA (nearTo m o (o b) (o a) 32)) (0, 0) _ HN.out Tryd.underlying35 rfl (rmatInfo _) ?_)
    refine (rreach_in _ b _ HNk.out hb).mono ?_
    rintro e w4 ⟨rfl, hb4⟩
    have HI4 := Lib.hid (HI.out.below hb4)
    have HN4 := Lib.hid (HN.out.below hb4)
    clear hb4 HI HN
    go_wp2_with (first
      | (go_at_call 57; refine (rwith_val _ _ _ _ (Mm.ways_lt _ _) (by omega) HFe.out).mono ?_; rintro e w' ⟨rfl, rfl⟩)
      | (refine wpList_load_row rfl 35 (.tmp 13) rfl w2.heap.size rfl 35 (matA (nearTo m o (o b) (o a) 32)) (0, 0) _ HN4.out Tryd.underlying35 rfl (rmatInfo _) ?_))
    refine (turn_any _ _ HNk.out).mono ?_
    rintro e w5 ⟨rfl, hb5⟩
    have HI5 := Lib.hid (HI4.out.below hb5)
    clear hb5 HI4 HN4
    go_wp2_with fail
    refine (rreach_in _ a _ (turn_ok _) ha).mono ?_
    rintro e w6 ⟨rfl, hb6⟩
    have HI6 := Lib.hid (HI5.out.below hb6)
    clear hb6 HI5
    go_wp2_with (first
      | (go_at_call 57; refine (rwith_val _ _ _ _ (Mm.ways_lt _ _) (by omega) HHe.out).mono ?_; rintro e w' ⟨rfl, rfl⟩)
      | (go_at_call 39; refine (rhasN_val _ _ _ _ hfl (by omega) HF.out).mono ?_; rintro e w' ⟨rfl, rfl⟩))
    refine wp_region_noPanic ?_
    refine region_start (S := ISt 35 36 w m o) 5 rfl (by kernel_rfl) (HI6.out.st.drew) (fun hHeld => ?_)
    refine take_at 0 71 (.agg (matA m)) rfl rfl (by kernel_rfl) (by kernel_rfl) (by kernel_rfl) (fun _ _ _ h => h) (yields_row (by rfl) 35 (.tmp 4) rfl (w.heap.size) rfl 35 (matA m) (fun W h => h.gr) Tryd.underlying35 (rmatInfo _)) hHeld ?_
    simp only [put_laws]
    refine take_at 1 72 (.agg (ordA o)) rfl rfl (by kernel_rfl) (by kernel_rfl) (by kernel_rfl) (fun _ _ _ h => h) (yields_row (by rfl) 36 (.tmp 5) rfl (w.heap.size + 1) rfl 36 (ordA o) (fun W h => h.od) Tryd.underlying36 (rordInfo _)) hHeld ?_
    simp only [put_laws]
    refine wpAnyH_ready (rs := [2]) (by kernel_rfl) (by simp) ?_
    refine AllReadyH.cons rfl (fun K hK => ?_) AllReadyH.nil
    obtain ⟨old, hold⟩ := hHeld.rg
    refine step_store_row (by rfl) 35 (.tmp 8) (.tmp 71) (by rfl) (w.heap.size + 2) (matA m) (by rfl) (by rfl) 35 _ hold (rmatInfo _) (by rw [matA_size, matA_size]) (matA_one _) ?_
    clear hold
    obtain ⟨hHeld, hRG⟩ := hHeld.setG (n := m)
    refine hK.out _ _ hHeld (fun hHeld => ?_)
    clear hK K
    refine wpAnyH_ready (rs := [3]) (by kernel_rfl) (by simp) ?_
    refine AllReadyH.cons rfl (fun K hK => ?_) AllReadyH.nil
    obtain ⟨old, hold⟩ := hHeld.ro
    refine step_store_row (by rfl) 36 (.tmp 9) (.tmp 72) (by rfl) (w.heap.size + 3) (ordA o) (by rfl) (by rfl) 36 _ hold (rordInfo _) (by rw [ordA_size, ordA_size]) (ordA_one _) ?_
    clear hold
    have hRG := hRG.setRow (k := w.heap.size + 3) (ordA o) (by omega)
    obtain ⟨hHeld, hRO⟩ := hHeld.setO (q := o)
    refine hK.out _ _ hHeld (fun hHeld => ?_)
    clear hK K
    refine take_at 4 10 (.bool false) rfl rfl (by kernel_rfl) (by kernel_rfl) (by kernel_rfl) (fun _ _ _ h => h) (Or.inl ⟨by rfl, by intro W hW; clear hW; go_simp⟩) hHeld ?_
    simp only [put_laws]
    refine wpAnyH_done (by kernel_rfl) ?_ _
    refine NoPanic.normal ?_
    go_wp2
    have hEnd := hHeld.bel
    refine bodyPost_ret (results_three rfl _ _ (w.heap.size + 2) (w.heap.size + 3) 35 36 (matA m) (ordA o) _ _ _ _ (.bool false) rfl rfl rfl hRG hRO Tryd.underlying35 Tryd.underlying36 (rmatInfo _) (rordInfo _)) rfl ⟨rfl, hEnd⟩
end Go.Proofs.YtakoceablbgchaaDoor
