/-
  The contract of the document's own Insert, but where the edge goes down.
  The contract of the document's own Insert where the edge goes down.
-/
import Derived.Test.YtakoceablbgchaaDoorJRef
import Derived.Test.YtakoceablbgchaaDoorJIns
namespace Go.Proofs.YtakoceablbgchaaDoor
open Go.RowKit
attribute [local go_sem ↓] Go.wp_at_zero Go.wp_at_succ
theorem rput_not (m : Mm.Gr) (a b : Int) (w : World) (ha : -9223372036854775808 ≤ a ∧ a ≤ 9223372036854775807) (hb : -9223372036854775808 ≤ b ∧ b ≤ 9223372036854775807) (h : ¬ Od.May a b) :
    Calls Tryd.prog 71 #[.agg (matA m), .int .i64 a, .int .i64 b] w fun e w' => e = .returned (.tuple #[.agg (matA m), .bool false]) ∧ Below w.heap.size w w' := by
  rcases not_may ha hb h with h | ⟨x, rfl, hx, h⟩ | ⟨x, rfl, rfl, hx⟩
  · exact rput_no1 m a b w h
  · exact rput_no2 m x b w hx h
  · exact rput_no3 m x w hx
set_option maxHeartbeats 4000000 in
set_option maxRecDepth 100000 in
theorem rinsert_bad_yes (m : Mm.Gr) (o : Od.O) (a b : Int) (w : World) (hm : Mm.Ok m) (ha : -9223372036854775808 ≤ a ∧ a ≤ 9223372036854775807) (hb : -9223372036854775808 ≤ b ∧ b ≤ 9223372036854775807) (h : ¬ Od.May a b) (hs : Od.sortedB m o = true) (hT : TabAt w) :
    Calls Tryd.prog 55 #[.agg (matA m), .agg (ordA o), .int .i64 a, .int .i64 b] w fun e w' => e = .returned (.tuple #[.agg (matA m), .agg (ordA o), .bool false]) ∧ Below w.heap.size w w' := by
  have HM := Lib.hid h
  have HSB := Lib.hid hs
  clear h hs
  have HT := Lib.hid (ist_first 35 36 m o hT)
  clear hT
  go_enter Tryd.func55, Tryd.ntmps55
  go_wp2_with (refine wpList_load_row rfl 35 (.tmp 4) rfl w.heap.size rfl 35 (matA m) (0, 0) _ HT.out.gr Tryd.underlying35 rfl (rmatInfo m) ?_)
  refine (rput_not m a b _ ha hb HM.out).mono ?_
  rintro e w1 ⟨rfl, hb1⟩
  have H1 := Lib.hid (iw_first (n := m) HT.out hb1)
  clear hb1 HT
  go_wp2_with (first
    | (refine wpList_store_row rfl 35 (.tmp 11) (.tmp 27) rfl w1.heap.size (matA m) rfl rfl 35 _ (heap_alloc_new _ _) (rmatInfo _) (by rw [matA_size]; rfl) (matA_one _) ?_; rw [World.setRow_alloc_new])
    | (refine wpList_load_row rfl 35 (.tmp 4) rfl w.heap.size rfl 35 (matA m) (0, 0) _ H1.out.st.gr Tryd.underlying35 rfl (rmatInfo _) ?_)
    | (refine wpList_load_row rfl 36 (.tmp 5) rfl (w.heap.size + 1) rfl 36 (ordA o) (0, 0) _ H1.out.st.od Tryd.underlying36 rfl (rordInfo _) ?_))
  refine (rsorted_val m o true _ hm HSB.out).mono ?_
  rintro e w2 ⟨rfl, hb2⟩
  have H2 := Lib.hid (H1.out.below hb2)
  clear hb2 H1
  go_wp2
  refine wp_region_noPanic ?_
  refine region_start (S := ISt 35 36 w m o) 5 rfl (by kernel_rfl) (H2.out.st.drew) (fun hHeld => ?_)
  refine take_at 0 37 (.agg (matA m)) rfl rfl (by kernel_rfl) (by kernel_rfl) (by kernel_rfl) (fun _ _ _ h => h) (yields_row (by rfl) 35 (.tmp 4) rfl (w.heap.size) rfl 35 (matA m) (fun W h => h.gr) Tryd.underlying35 (rmatInfo _)) hHeld ?_
  simp only [put_laws]
  refine take_at 1 38 (.agg (ordA o)) rfl rfl (by kernel_rfl) (by kernel_rfl) (by kernel_rfl) (fun _ _ _ h => h) (yields_row (by rfl) 36 (.tmp 5) rfl (w.heap.size + 1) rfl 36 (ordA o) (fun W h => h.od) Tryd.underlying36 (rordInfo _)) hHeld ?_
  simp only [put_laws]
  refine wpAnyH_ready (rs := [2]) (by kernel_rfl) (by simp) ?_
  refine AllReadyH.cons rfl (fun K hK => ?_) AllReadyH.nil
  obtain ⟨old, hold⟩ := hHeld.rg
  refine step_store_row (by rfl) 35 (.tmp 8) (.tmp 37) (by rfl) (w.heap.size + 2) (matA m) (by rfl) (by rfl) 35 _ hold (rmatInfo _) (by rw [matA_size, matA_size]) (matA_one _) ?_
  clear hold
  obtain ⟨hHeld, hRG⟩ := hHeld.setG (n := m)
  refine hK.out _ _ hHeld (fun hHeld => ?_)
  clear hK K
  refine wpAnyH_ready (rs := [3]) (by kernel_rfl) (by simp) ?_
  refine AllReadyH.cons rfl (fun K hK => ?_) AllReadyH.nil
  obtain ⟨old, hold⟩ := hHeld.ro
  refine step_store_row (by rfl) 36 (.tmp 9) (.tmp 38) (by rfl) (w.heap.size + 3) (ordA o) (by rfl) (by rfl) 36 _ hold (rordInfo _) (by rw [ordA_size, ordA_size]) (ordA_one _) ?_
  clear hold
  have hRG := hRG.setRow (k := w.heap.size + 3) (ordA o) (by omega)
  obtain ⟨hHeld, hRO⟩ := hHeld.setO (q := o)
  refine hK.out _ _ hHeld (fun hHeld => ?_)
  clear hK K
  refine take_at 4 10 (.bool false) rfl rfl (by kernel_rfl) (by kernel_rfl) (by kernel_rfl) (fun _ _ _ h => h) (Or.inl ⟨by rfl, by intro W hW; clear hW; go_simp⟩) hHeld ?_
  simp only [put_laws]
  refine wpAnyH_done (by kernel_rfl) ?_ _
  refine NoPanic.normal ?_
  go_wp2
  have hEnd := hHeld.bel
  refine bodyPost_ret (results_three rfl _ _ (w.heap.size + 2) (w.heap.size + 3) 35 36 (matA m) (ordA o) _ _ _ _ (.bool false) rfl rfl rfl hRG hRO Tryd.underlying35 Tryd.underlying36 (rmatInfo _) (rordInfo _)) rfl ⟨rfl, hEnd⟩
set_option maxHeartbeats 4000000 in
set_option maxRecDepth 100000 in
theorem rinsert_bad_no (m : Mm.Gr) (o : Od.O) (a b : Int) (w : World) (hm : Mm.Ok m) (ha : -9223372036854775808 ≤ a ∧ a ≤ 9223372036854775807) (hb : -9223372036854775808 ≤ b ∧ b ≤ 9223372036854775807) (h : ¬ Od.May a b) (hs : Od.sortedB m o = false) (hT : TabAt w) :
    Calls Tryd.prog 55 #[.agg (matA m), .agg (ordA o), .int .i64 a, .int .i64 b] w fun e w' => e = .returned (.tuple #[.agg (matA m), .agg (ordA o), .bool false]) ∧ Below w.heap.size w w' := by
  have HM := Lib.hid h
  have HSB := Lib.hid hs
  clear h hs
  have HT := Lib.hid (ist_first 35 36 m o hT)
  clear hT
  go_enter Tryd.func55, Tryd.ntmps55
  go_wp2_with (refine wpList_load_row rfl 35 (.tmp 4) rfl w.heap.size rfl 35 (matA m) (0, 0) _ HT.out.gr Tryd.underlying35 rfl (rmatInfo m) ?_)
  refine (rput_not m a b _ ha hb HM.out).mono ?_
  rintro e w1 ⟨rfl, hb1⟩
  have H1 := Lib.hid (iw_first (n := m) HT.out hb1)
  clear hb1 HT
  go_wp2_with (first
    | (refine wpList_store_row rfl 35 (.tmp 11) (.tmp 27) rfl w1.heap.size (matA m) rfl rfl 35 _ (heap_alloc_new _ _) (rmatInfo _) (by rw [matA_size]; rfl) (matA_one _) ?_; rw [World.setRow_alloc_new])
    | (refine wpList_load_row rfl 35 (.tmp 4) rfl w.heap.size rfl 35 (matA m) (0, 0) _ H1.out.st.gr Tryd.underlying35 rfl (rmatInfo _) ?_)
    | (refine wpList_load_row rfl 36 (.tmp 5) rfl (w.heap.size + 1) rfl 36 (ordA o) (0, 0) _ H1.out.st.od Tryd.underlying36 rfl (rordInfo _) ?_))
  refine (rsorted_val m o false _ hm HSB.out).mono ?_
  rintro e w2 ⟨rfl, hb2⟩
  have H2 := Lib.hid (H1.out.below hb2)
  clear hb2 H1
  go_wp2
  refine wp_region_noPanic ?_
  refine region_start (S := ISt 35 36 w m o) 5 rfl (by kernel_rfl) (H2.out.st.drew) (fun hHeld => ?_)
  refine take_at 0 37 (.agg (matA m)) rfl rfl (by kernel_rfl) (by kernel_rfl) (by kernel_rfl) (fun _ _ _ h => h) (yields_row (by rfl) 35 (.tmp 4) rfl (w.heap.size) rfl 35 (matA m) (fun W h => h.gr) Tryd.underlying35 (rmatInfo _)) hHeld ?_
  simp only [put_laws]
  refine take_at 1 38 (.agg (ordA o)) rfl rfl (by kernel_rfl) (by kernel_rfl) (by kernel_rfl) (fun _ _ _ h => h) (yields_row (by rfl) 36 (.tmp 5) rfl (w.heap.size + 1) rfl 36 (ordA o) (fun W h => h.od) Tryd.underlying36 (rordInfo _)) hHeld ?_
  simp only [put_laws]
  refine wpAnyH_ready (rs := [2]) (by kernel_rfl) (by simp) ?_
  refine AllReadyH.cons rfl (fun K hK => ?_) AllReadyH.nil
  obtain ⟨old, hold⟩ := hHeld.rg
  refine step_store_row (by rfl) 35 (.tmp 8) (.tmp 37) (by rfl) (w.heap.size + 2) (matA m) (by rfl) (by rfl) 35 _ hold (rmatInfo _) (by rw [matA_size, matA_size]) (matA_one _) ?_
  clear hold
  obtain ⟨hHeld, hRG⟩ := hHeld.setG (n := m)
  refine hK.out _ _ hHeld (fun hHeld => ?_)
  clear hK K
  refine wpAnyH_ready (rs := [3]) (by kernel_rfl) (by simp) ?_
  refine AllReadyH.cons rfl (fun K hK => ?_) AllReadyH.nil
  obtain ⟨old, hold⟩ := hHeld.ro
  refine step_store_row (by rfl) 36 (.tmp 9) (.tmp 38) (by rfl) (w.heap.size + 3) (ordA o) (by rfl) (by rfl) 36 _ hold (rordInfo _) (by rw [ordA_size, ordA_size]) (ordA_one _) ?_
  clear hold
  have hRG := hRG.setRow (k := w.heap.size + 3) (ordA o) (by omega)
  obtain ⟨hHeld, hRO⟩ := hHeld.setO (q := o)
  refine hK.out _ _ hHeld (fun hHeld => ?_)
  clear hK K
  refine take_at 4 10 (.bool false) rfl rfl (by kernel_rfl) (by kernel_rfl) (by kernel_rfl) (fun _ _ _ h => h) (Or.inl ⟨by rfl, by intro W hW; clear hW; go_simp⟩) hHeld ?_
  simp only [put_laws]
  refine wpAnyH_done (by kernel_rfl) ?_ _
  refine NoPanic.normal ?_
  go_wp2
  have hEnd := hHeld.bel
  refine bodyPost_ret (results_three rfl _ _ (w.heap.size + 2) (w.heap.size + 3) 35 36 (matA m) (ordA o) _ _ _ _ (.bool false) rfl rfl rfl hRG hRO Tryd.underlying35 Tryd.underlying36 (rmatInfo _) (rordInfo _)) rfl ⟨rfl, hEnd⟩
set_option maxHeartbeats 4000000 in
set_option maxRecDepth 100000 in
theorem rinsert_unsorted (m : Mm.Gr) (o : Od.O) (a b : Nat) (w : World) (hm : Mm.Ok m) (ha : a < 32) (hb : b < 32) (hab : a ≠ b) (hs : ¬ Od.Sorted m o) (hT : TabAt w) :
    Calls Tryd.prog 55 #[.agg (matA m), .agg (ordA o), .int .i64 (a : Nat), .int .i64 (b : Nat)] w fun e w' => e = .returned (.tuple #[.agg (matA m), .agg (ordA o), .bool false]) ∧ Below w.heap.size w w' := by
  have HSB := Lib.hid (Od.sortedB_no hs)
  clear hs
  have HT := Lib.hid (ist_first 35 36 m o hT)
  clear hT
  go_enter Tryd.func55, Tryd.ntmps55
  go_wp2_with (refine wpList_load_row rfl 35 (.tmp 4) rfl w.heap.size rfl 35 (matA m) (0, 0) _ HT.out.gr Tryd.underlying35 rfl (rmatInfo m) ?_)
  refine (rput_yes m a b _ hm ha hb hab).mono ?_
  rintro e w1 ⟨rfl, hb1⟩
  have H1 := Lib.hid (iw_first (n := (Mm.put m a b)) HT.out hb1)
  clear hb1 HT
  go_wp2_with (first
    | (refine wpList_store_row rfl 35 (.tmp 11) (.tmp 27) rfl w1.heap.size (matA (Mm.put m a b)) rfl rfl 35 _ (heap_alloc_new _ _) (rmatInfo _) (by rw [matA_size]; rfl) (matA_one _) ?_; rw [World.setRow_alloc_new])
    | (refine wpList_load_row rfl 35 (.tmp 4) rfl w.heap.size rfl 35 (matA m) (0, 0) _ H1.out.st.gr Tryd.underlying35 rfl (rmatInfo _) ?_)
    | (refine wpList_load_row rfl 36 (.tmp 5) rfl (w.heap.size + 1) rfl 36 (ordA o) (0, 0) _ H1.out.st.od Tryd.underlying36 rfl (rordInfo _) ?_))
  refine (rsorted_val m o false _ hm HSB.out).mono ?_
  rintro e w2 ⟨rfl, hb2⟩
  have H2 := Lib.hid (H1.out.below hb2)
  clear hb2 H1
  go_wp2
  refine wp_region_noPanic ?_
  refine region_start (S := ISt 35 36 w m o) 5 rfl (by kernel_rfl) (H2.out.st.drew) (fun hHeld => ?_)
  refine take_at 0 37 (.agg (matA m)) rfl rfl (by kernel_rfl) (by kernel_rfl) (by kernel_rfl) (fun _ _ _ h => h) (yields_row (by rfl) 35 (.tmp 4) rfl (w.heap.size) rfl 35 (matA m) (fun W h => h.gr) Tryd.underlying35 (rmatInfo _)) hHeld ?_
  simp only [put_laws]
  refine take_at 1 38 (.agg (ordA o)) rfl rfl (by kernel_rfl) (by kernel_rfl) (by kernel_rfl) (fun _ _ _ h => h) (yields_row (by rfl) 36 (.tmp 5) rfl (w.heap.size + 1) rfl 36 (ordA o) (fun W h => h.od) Tryd.underlying36 (rordInfo _)) hHeld ?_
  simp only [put_laws]
  refine wpAnyH_ready (rs := [2]) (by kernel_rfl) (by simp) ?_
  refine AllReadyH.cons rfl (fun K hK => ?_) AllReadyH.nil
  obtain ⟨old, hold⟩ := hHeld.rg
  refine step_store_row (by rfl) 35 (.tmp 8) (.tmp 37) (by rfl) (w.heap.size + 2) (matA m) (by rfl) (by rfl) 35 _ hold (rmatInfo _) (by rw [matA_size, matA_size]) (matA_one _) ?_
  clear hold
  obtain ⟨hHeld, hRG⟩ := hHeld.setG (n := m)
  refine hK.out _ _ hHeld (fun hHeld => ?_)
  clear hK K
  refine wpAnyH_ready (rs := [3]) (by kernel_rfl) (by simp) ?_
  refine AllReadyH.cons rfl (fun K hK => ?_) AllReadyH.nil
  obtain ⟨old, hold⟩ := hHeld.ro
  refine step_store_row (by rfl) 36 (.tmp 9) (.tmp 38) (by rfl) (w.heap.size + 3) (ordA o) (by rfl) (by rfl) 36 _ hold (rordInfo _) (by rw [ordA_size, ordA_size]) (ordA_one _) ?_
  clear hold
  have hRG := hRG.setRow (k := w.heap.size + 3) (ordA o) (by omega)
  obtain ⟨hHeld, hRO⟩ := hHeld.setO (q := o)
  refine hK.out _ _ hHeld (fun hHeld => ?_)
  clear hK K
  refine take_at 4 10 (.bool false) rfl rfl (by kernel_rfl) (by kernel_rfl) (by kernel_rfl) (fun _ _ _ h => h) (Or.inl ⟨by rfl, by intro W hW; clear hW; go_simp⟩) hHeld ?_
  simp only [put_laws]
  refine wpAnyH_done (by kernel_rfl) ?_ _
  refine NoPanic.normal ?_
  go_wp2
  have hEnd := hHeld.bel
  refine bodyPost_ret (results_three rfl _ _ (w.heap.size + 2) (w.heap.size + 3) 35 36 (matA m) (ordA o) _ _ _ _ (.bool false) rfl rfl rfl hRG hRO Tryd.underlying35 Tryd.underlying36 (rmatInfo _) (rordInfo _)) rfl ⟨rfl, hEnd⟩
set_option maxHeartbeats 4000000 in
set_option maxRecDepth 100000 in
theorem rinsert_up (m : Mm.Gr) (o : Od.O) (a b : Nat) (w : World) (hm : Mm.Ok m) (ha : a < 32) (hb : b < 32) (hab : a ≠ b) (hs : Od.Sorted m o) (hlt : o a < o b) (hT : TabAt w) :
    Calls Tryd.prog 55 #[.agg (matA m), .agg (ordA o), .int .i64 (a : Nat), .int .i64 (b : Nat)] w fun e w' => e = .returned (.tuple #[.agg (matA (Mm.put m a b)), .agg (ordA o), .bool true]) ∧ Below w.heap.size w w' := by
  have HSB := Lib.hid (Od.sortedB_yes hs)
  clear hs
  have HT := Lib.hid (ist_first 35 36 m o hT)
  clear hT
  go_enter Tryd.func55, Tryd.ntmps55
  go_wp2_with (refine wpList_load_row rfl 35 (.tmp 4) rfl w.heap.size rfl 35 (matA m) (0, 0) _ HT.out.gr Tryd.underlying35 rfl (rmatInfo m) ?_)
  refine (rput_yes m a b _ hm ha hb hab).mono ?_
  rintro e w1 ⟨rfl, hb1⟩
  have H1 := Lib.hid (iw_first (n := (Mm.put m a b)) HT.out hb1)
  clear hb1 HT
  go_wp2_with (first
    | (refine wpList_store_row rfl 35 (.tmp 11) (.tmp 27) rfl w1.heap.size (matA (Mm.put m a b)) rfl rfl 35 _ (heap_alloc_new _ _) (rmatInfo _) (by rw [matA_size]; rfl) (matA_one _) ?_; rw [World.setRow_alloc_new])
    | (refine wpList_load_row rfl 35 (.tmp 4) rfl w.heap.size rfl 35 (matA m) (0, 0) _ H1.out.st.gr Tryd.underlying35 rfl (rmatInfo _) ?_)
    | (refine wpList_load_row rfl 36 (.tmp 5) rfl (w.heap.size + 1) rfl 36 (ordA o) (0, 0) _ H1.out.st.od Tryd.underlying36 rfl (rordInfo _) ?_))
  refine (rsorted_val m o true _ hm HSB.out).mono ?_
  rintro e w2 ⟨rfl, hb2⟩
  have H2 := Lib.hid (H1.out.below hb2)
  clear hb2 H1
  have hc1 := H2.out.st.od.cell a ha
  have hc2 := H2.out.st.od.cell b hb
  go_wp2
  go_quiet (fail)
  have H3 := Lib.hid (H2.out.below (below_drewN (Below.refl _ _) nq))
  clear H2 hc1 hc2
  go_wp2
  refine wp_region_noPanic ?_
  refine region_start (S := IW 35 36 w m o w1.heap.size (Mm.put m a b)) 5 rfl (by kernel_rfl) (H3.out.below (below_drew _)) (fun hHeld => ?_)
  refine take_at 0 46 (.agg (matA (Mm.put m a b))) rfl rfl (by kernel_rfl) (by kernel_rfl) (by kernel_rfl) (fun _ _ _ h => h) (yields_row (by rfl) 35 (.tmp 11) rfl (w1.heap.size) rfl 35 (matA (Mm.put m a b)) (fun W h => h.wi) Tryd.underlying35 (rmatInfo _)) hHeld ?_
  simp only [put_laws]
  refine take_at 1 47 (.agg (ordA o)) rfl rfl (by kernel_rfl) (by kernel_rfl) (by kernel_rfl) (fun _ _ _ h => h) (yields_row (by rfl) 36 (.tmp 5) rfl (w.heap.size + 1) rfl 36 (ordA o) (fun W h => h.st.od) Tryd.underlying36 (rordInfo _)) hHeld ?_
  simp only [put_laws]
  refine wpAnyH_ready (rs := [2]) (by kernel_rfl) (by simp) ?_
  refine AllReadyH.cons rfl (fun K hK => ?_) AllReadyH.nil
  obtain ⟨old, hold⟩ := hHeld.st.rg
  refine step_store_row (by rfl) 35 (.tmp 8) (.tmp 46) (by rfl) (w.heap.size + 2) (matA (Mm.put m a b)) (by rfl) (by rfl) 35 _ hold (rmatInfo _) (by rw [matA_size, matA_size]) (matA_one _) ?_
  clear hold
  have hRG := (hHeld.st.setG (n := (Mm.put m a b))).2
  have hHeld := hHeld.setG (k := (Mm.put m a b))
  refine hK.out _ _ hHeld (fun hHeld => ?_)
  clear hK K
  refine wpAnyH_ready (rs := [3]) (by kernel_rfl) (by simp) ?_
  refine AllReadyH.cons rfl (fun K hK => ?_) AllReadyH.nil
  obtain ⟨old, hold⟩ := hHeld.st.ro
  refine step_store_row (by rfl) 36 (.tmp 9) (.tmp 47) (by rfl) (w.heap.size + 3) (ordA o) (by rfl) (by rfl) 36 _ hold (rordInfo _) (by rw [ordA_size, ordA_size]) (ordA_one _) ?_
  clear hold
  have hRG := hRG.setRow (k := w.heap.size + 3) (ordA o) (by omega)
  have hRO := (hHeld.st.setO (q := o)).2
  have hHeld := hHeld.setO (q := o)
  refine hK.out _ _ hHeld (fun hHeld => ?_)
  clear hK K
  refine take_at 4 10 (.bool true) rfl rfl (by kernel_rfl) (by kernel_rfl) (by kernel_rfl) (fun _ _ _ h => h) (Or.inl ⟨by rfl, by intro W hW; clear hW; go_simp⟩) hHeld ?_
  simp only [put_laws]
  refine wpAnyH_done (by kernel_rfl) ?_ _
  refine NoPanic.normal ?_
  go_wp2
  have hEnd := hHeld.st.bel
  refine bodyPost_ret (results_three rfl _ _ (w.heap.size + 2) (w.heap.size + 3) 35 36 (matA (Mm.put m a b)) (ordA o) _ _ _ _ (.bool true) rfl rfl rfl hRG hRO Tryd.underlying35 Tryd.underlying36 (rmatInfo _) (rordInfo _)) rfl ⟨rfl, hEnd⟩
theorem kept_block {W W' : World} {ob : Obj} (hb : Below (W.alloc ob).heap.size (W.alloc ob) W') : W'.heap[W.heap.size]? = some ob := (hb.block _ (by simp)).trans (heap_alloc_new _ _)
set_option maxHeartbeats 4000000 in
set_option maxRecDepth 100000 in
theorem rinsert_round (m : Mm.Gr) (o : Od.O) (a b : Nat) (w : World) (hm : Mm.Ok m) (ha : a < 32) (hb : b < 32) (hab : a ≠ b) (hs : Od.Sorted m o) (hlt : o b ≤ o a) (hf : (Od.fore m o a b).testBit a = true) (hT : TabAt w) :
    Calls Tryd.prog 55 #[.agg (matA m), .agg (ordA o), .int .i64 (a : Nat), .int .i64 (b : Nat)] w fun e w' => e = .returned (.tuple #[.agg (matA m), .agg (ordA o), .bool false]) ∧ Below w.heap.size w w' := by
  have HSB := Lib.hid (Od.sortedB_yes hs)
  have HF := Lib.hid hf
  have HFe := Lib.hid (near_fore (o := o) (a := a) (b := b) hm)
  have HHe := Lib.hid (near_hind (o := o) (a := a) (b := b) hm)
  have HNk := Lib.hid (nearTo_ok o (o b) (o a) 32 hm)
  have hfl : Od.fore m o a b < 18446744073709551616 := Nat.lt_trans (Od.fore_lt hb) (by decide)
  clear hs hf
  have HT := Lib.hid (ist_first 35 36 m o hT)
  clear hT
  go_enter Tryd.func55, Tryd.ntmps55
  go_wp2_with (refine wpList_load_row rfl 35 (.tmp 4) rfl w.heap.size rfl 35 (matA m) (0, 0) _ HT.out.gr Tryd.underlying35 rfl (rmatInfo m) ?_)
  refine (rput_yes m a b _ hm ha hb hab).mono ?_
  rintro e w1 ⟨rfl, hb1⟩
  have H1 := Lib.hid (iw_first (n := (Mm.put m a b)) HT.out hb1)
  clear hb1 HT
  go_wp2_with (first
    | (refine wpList_store_row rfl 35 (.tmp 11) (.tmp 27) rfl w1.heap.size (matA (Mm.put m a b)) rfl rfl 35 _ (heap_alloc_new _ _) (rmatInfo _) (by rw [matA_size]; rfl) (matA_one _) ?_; rw [World.setRow_alloc_new])
    | (refine wpList_load_row rfl 35 (.tmp 4) rfl w.heap.size rfl 35 (matA m) (0, 0) _ H1.out.st.gr Tryd.underlying35 rfl (rmatInfo _) ?_)
    | (refine wpList_load_row rfl 36 (.tmp 5) rfl (w.heap.size + 1) rfl 36 (ordA o) (0, 0) _ H1.out.st.od Tryd.underlying36 rfl (rordInfo _) ?_))
  refine (rsorted_val m o true _ hm HSB.out).mono ?_
  rintro e w2 ⟨rfl, hb2⟩
  have H2 := Lib.hid (H1.out.below hb2)
  clear hb2 H1
  have hc1 := H2.out.st.od.cell a ha
  have hc2 := H2.out.st.od.cell b hb
  go_wp2
  go_quiet (fail)
  have H3 := Lib.hid (H2.out.below (below_drewN (Below.refl _ _) nq))
  clear H2 hc1 hc2
  go_wp2
  refine wp_region_noPanic ?_
  refine region_start (S := Below (w2.drewN nq).heap.size (w2.drewN nq)) 11 rfl (by kernel_rfl) (below_drew _) (fun hHeld => ?_)
  refine take_at 0 48 (.agg (matA m)) rfl rfl (by kernel_rfl) (by kernel_rfl) (by kernel_rfl) (fun _ _ _ h => h) (yields_row (by rfl) 35 (.tmp 4) rfl (w.heap.size) rfl 35 (matA m) (fun W h => (H3.out.below h).st.gr) Tryd.underlying35 (rmatInfo _)) hHeld ?_
  simp only [put_laws]
  refine take_at 1 49 (.agg (ordA o)) rfl rfl (by kernel_rfl) (by kernel_rfl) (by kernel_rfl) (fun _ _ _ h => h) (yields_row (by rfl) 36 (.tmp 5) rfl (w.heap.size + 1) rfl 36 (ordA o) (fun W h => (H3.out.below h).st.od) Tryd.underlying36 (rordInfo _)) hHeld ?_
  simp only [put_laws]
  refine take_at 2 50 (.int .i64 (b : Nat)) rfl rfl (by kernel_rfl) (by kernel_rfl) (by kernel_rfl) (fun _ _ _ h => h) (Or.inl ⟨by rfl, by intro W hW; clear hW; go_simp⟩) hHeld ?_
  simp only [put_laws]
  refine take_at 3 51 (.pointer (some ⟨w.heap.size + 1, b, none⟩)) rfl rfl (by kernel_rfl) (by kernel_rfl) (by kernel_rfl) (fun _ _ _ h => h) (Or.inl ⟨by rfl, by intro W hW; clear hW; go_simp; try (intro h; omega)⟩) hHeld ?_
  simp only [put_laws]
  refine take_at 4 52 (.int .i64 (o b)) rfl rfl (by kernel_rfl) (by kernel_rfl) (by kernel_rfl) (fun _ _ _ h => h) (Or.inl ⟨by rfl, by intro W hW; have hc := (H3.out.below hW).st.od.cell b hb; clear hW; go_simp⟩) hHeld ?_
  simp only [put_laws]
  refine take_at 5 53 (.int .i64 (a : Nat)) rfl rfl (by kernel_rfl) (by kernel_rfl) (by kernel_rfl) (fun _ _ _ h => h) (Or.inl ⟨by rfl, by intro W hW; clear hW; go_simp⟩) hHeld ?_
  simp only [put_laws]
  refine take_at 6 54 (.pointer (some ⟨w.heap.size + 1, a, none⟩)) rfl rfl (by kernel_rfl) (by kernel_rfl) (by kernel_rfl) (fun _ _ _ h => h) (Or.inl ⟨by rfl, by intro W hW; clear hW; go_simp; try (intro h; omega)⟩) hHeld ?_
  simp only [put_laws]
  refine take_at 7 55 (.int .i64 (o a)) rfl rfl (by kernel_rfl) (by kernel_rfl) (by kernel_rfl) (fun _ _ _ h => h) (Or.inl ⟨by rfl, by intro W hW; have hc := (H3.out.below hW).st.od.cell a ha; clear hW; go_simp⟩) hHeld ?_
  simp only [put_laws]
  refine wpAnyH_ready (rs := [8, 9]) (by kernel_rfl) (by simp) ?_
  refine AllReadyH.cons rfl (fun K hK => ?_) (AllReadyH.cons rfl (fun K hK => ?_) AllReadyH.nil)
  · go_simp
    refine (within_any m o _ _ _ hm).mono ?_
    rintro e w3 ⟨rfl, hb3⟩
    try go_simp
    have hHeld := hHeld.trans (hb3.mono hHeld.size)
    have hKeep := hHeld
    refine hK.out _ _ hHeld (fun hHeld => ?_)
    clear hK K hb3
    refine wpAnyH_ready (rs := [9]) (by kernel_rfl) (by simp) ?_
    refine AllReadyH.cons rfl (fun K hK => ?_) AllReadyH.nil
    go_simp
    refine hK.out _ _ (hHeld.alloc hHeld.size _) (fun hHeld => ?_)
    clear hK K
    refine wpAnyH_ready (rs := [10]) (by kernel_rfl) (by simp) ?_
    refine AllReadyH.cons rfl (fun K hK => ?_) AllReadyH.nil
    refine step_store_row (by rfl) 35 (.tmp 13) (.tmp 56) (by rfl) w3.heap.size (matA (nearTo m o (o b) (o a) 32)) (by rfl) (by rfl) 35 _ (heap_alloc_new _ _) (rmatInfo _) (by rw [matA_size]; rfl) (matA_one _) ?_
    rw [World.setRow_alloc_new]
    have hHeld := hKeep.alloc hKeep.size (.cells (matA (nearTo m o (o b) (o a) 32)) 35)
    have HN := Lib.hid (matAt_new w3 (nearTo m o (o b) (o a) 32) 35)
    refine hK.out _ _ hHeld (fun hHeld => ?_)
    clear hK K hKeep
    refine wpAnyH_done (by kernel_rfl) ?_ _
    refine NoPanic.normal ?_
    have HI := Lib.hid (H3.out.below hHeld)
    clear hHeld H3
    go_wp2_with (refine wpList_load_row rfl 35 (.tmp 13) rfl w3.heap.size rfl 35 (matA (nearTo m o (o b) (o a) 32)) (0, 0) _ HN.out Tryd.underlying35 rfl (rmatInfo _) ?_)
    refine (rreach_in _ b _ HNk.out hb).mono ?_
    rintro e w4 ⟨rfl, hb4⟩
    have HI4 := Lib.hid (HI.out.below hb4)
    have HN4 := Lib.hid (HN.out.below hb4)
    clear hb4 HI HN
    go_wp2_with (first
      | (go_at_call 57; refine (rwith_val _ _ _ _ (Mm.ways_lt _ _) (by omega) HFe.out).mono ?_; rintro e w' ⟨rfl, rfl⟩)
      | (refine wpList_load_row rfl 35 (.tmp 13) rfl w3.heap.size rfl 35 (matA (nearTo m o (o b) (o a) 32)) (0, 0) _ HN4.out Tryd.underlying35 rfl (rmatInfo _) ?_))
    refine (turn_any _ _ HNk.out).mono ?_
    rintro e w5 ⟨rfl, hb5⟩
    have HI5 := Lib.hid (HI4.out.below hb5)
    clear hb5 HI4 HN4
    go_wp2_with fail
    refine (rreach_in _ a _ (turn_ok _) ha).mono ?_
    rintro e w6 ⟨rfl, hb6⟩
    have HI6 := Lib.hid (HI5.out.below hb6)
    clear hb6 HI5
    go_wp2_with (first
      | (go_at_call 57; refine (rwith_val _ _ _ _ (Mm.ways_lt _ _) (by omega) HHe.out).mono ?_; rintro e w' ⟨rfl, rfl⟩)
      | (go_at_call 39; refine (rhasN_val _ _ _ _ hfl (by omega) HF.out).mono ?_; rintro e w' ⟨rfl, rfl⟩))
    refine wp_region_noPanic ?_
    refine region_start (S := ISt 35 36 w m o) 5 rfl (by kernel_rfl) (HI6.out.st.drew) (fun hHeld => ?_)
    refine take_at 0 71 (.agg (matA m)) rfl rfl (by kernel_rfl) (by kernel_rfl) (by kernel_rfl) (fun _ _ _ h => h) (yields_row (by rfl) 35 (.tmp 4) rfl (w.heap.size) rfl 35 (matA m) (fun W h => h.gr) Tryd.underlying35 (rmatInfo _)) hHeld ?_
    simp only [put_laws]
    refine take_at 1 72 (.agg (ordA o)) rfl rfl (by kernel_rfl) (by kernel_rfl) (by kernel_rfl) (fun _ _ _ h => h) (yields_row (by rfl) 36 (.tmp 5) rfl (w.heap.size + 1) rfl 36 (ordA o) (fun W h => h.od) Tryd.underlying36 (rordInfo _)) hHeld ?_
    simp only [put_laws]
    refine wpAnyH_ready (rs := [2]) (by kernel_rfl) (by simp) ?_
    refine AllReadyH.cons rfl (fun K hK => ?_) AllReadyH.nil
    obtain ⟨old, hold⟩ := hHeld.rg
    refine step_store_row (by rfl) 35 (.tmp 8) (.tmp 71) (by rfl) (w.heap.size + 2) (matA m) (by rfl) (by rfl) 35 _ hold (rmatInfo _) (by rw [matA_size, matA_size]) (matA_one _) ?_
    clear hold
    obtain ⟨hHeld, hRG⟩ := hHeld.setG (n := m)
    refine hK.out _ _ hHeld (fun hHeld => ?_)
    clear hK K
    refine wpAnyH_ready (rs := [3]) (by kernel_rfl) (by simp) ?_
    refine AllReadyH.cons rfl (fun K hK => ?_) AllReadyH.nil
    obtain ⟨old, hold⟩ := hHeld.ro
    refine step_store_row (by rfl) 36 (.tmp 9) (.tmp 72) (by rfl) (w.heap.size + 3) (ordA o) (by rfl) (by rfl) 36 _ hold (rordInfo _) (by rw [ordA_size, ordA_size]) (ordA_one _) ?_
    clear hold
    have hRG := hRG.setRow (k := w.heap.size + 3) (ordA o) (by omega)
    obtain ⟨hHeld, hRO⟩ := hHeld.setO (q := o)
    refine hK.out _ _ hHeld (fun hHeld => ?_)
    clear hK K
    refine take_at 4 10 (.bool false) rfl rfl (by kernel_rfl) (by kernel_rfl) (by kernel_rfl) (fun _ _ _ h => h) (Or.inl ⟨by rfl, by intro W hW; clear hW; go_simp⟩) hHeld ?_
    simp only [put_laws]
    refine wpAnyH_done (by kernel_rfl) ?_ _
    refine NoPanic.normal ?_
    go_wp2
    have hEnd := hHeld.bel
    refine bodyPost_ret (results_three rfl _ _ (w.heap.size + 2) (w.heap.size + 3) 35 36 (matA m) (ordA o) _ _ _ _ (.bool false) rfl rfl rfl hRG hRO Tryd.underlying35 Tryd.underlying36 (rmatInfo _) (rordInfo _)) rfl ⟨rfl, hEnd⟩
  · go_simp
    refine hK.out _ _ (hHeld.alloc hHeld.size _) (fun hHeld => ?_)
    clear hK K
    refine wpAnyH_ready (rs := [8]) (by kernel_rfl) (by simp) ?_
    refine AllReadyH.cons rfl (fun K hK => ?_) AllReadyH.nil
    go_simp
    refine (within_any m o _ _ _ hm).mono ?_
    rintro e w3 ⟨rfl, hb3⟩
    try go_simp
    have hHeld := hHeld.trans (hb3.mono hHeld.size)
    have hN0 := kept_block hb3
    refine hK.out _ _ hHeld (fun hHeld => ?_)
    clear hK K hb3
    refine wpAnyH_ready (rs := [10]) (by kernel_rfl) (by simp) ?_
    refine AllReadyH.cons rfl (fun K hK => ?_) AllReadyH.nil
    refine step_store_row (by rfl) 35 (.tmp 13) (.tmp 56) (by rfl) w2.heap.size (matA (nearTo m o (o b) (o a) 32)) (by rfl) (by rfl) 35 _ hN0 (rmatInfo _) (by rw [matA_size]; rfl) (matA_one _) ?_
    have hHeld := setRow_below (cs := matA (nearTo m o (o b) (o a) 32)) hHeld (Nat.le_refl w2.heap.size)
    have HN := Lib.hid (show MatAt (w3.setRow w2.heap.size (matA (nearTo m o (o b) (o a) 32))) w2.heap.size (nearTo m o (o b) (o a) 32) 35 from setRow_heap _ _ _ _ _ _ hN0)
    refine hK.out _ _ hHeld (fun hHeld => ?_)
    clear hK K hN0
    refine wpAnyH_done (by kernel_rfl) ?_ _
    refine NoPanic.normal ?_
    have HI := Lib.hid (H3.out.below hHeld)
    clear hHeld H3
    go_wp2_with (refine wpList_load_row rfl 35 (.tmp 13) rfl w2.heap.size rfl 35 (matA (nearTo m o (o b) (o a) 32)) (0, 0) _ HN.out Tryd.underlying35 rfl (rmatInfo _) ?_)
    refine (rreach_in _ b _ HNk.out hb).mono ?_
    rintro e w4 ⟨rfl, hb4⟩
    have HI4 := Lib.hid (HI.out.below hb4)
    have HN4 := Lib.hid (HN.out.below hb4)
    clear hb4 HI HN
    go_wp2_with (first
      | (go_at_call 57; refine (rwith_val _ _ _ _ (Mm.ways_lt _ _) (by omega) HFe.out).mono ?_; rintro e w' ⟨rfl, rfl⟩)
      | (refine wpList_load_row rfl 35 (.tmp 13) rfl w2.heap.size rfl 35 (matA (nearTo m o (o b) (o a) 32)) (0, 0) _ HN4.out Tryd.underlying35 rfl (rmatInfo _) ?_))
    refine (turn_any _ _ HNk.out).mono ?_
    rintro e w5 ⟨rfl, hb5⟩
    have HI5 := Lib.hid (HI4.out.below hb5)
    clear hb5 HI4 HN4
    go_wp2_with fail
    refine (rreach_in _ a _ (turn_ok _) ha).mono ?_
    rintro e w6 ⟨rfl, hb6⟩
    have HI6 := Lib.hid (HI5.out.below hb6)
    clear hb6 HI5
    go_wp2_with (first
      | (go_at_call 57; refine (rwith_val _ _ _ _ (Mm.ways_lt _ _) (by omega) HHe.out).mono ?_; rintro e w' ⟨rfl, rfl⟩)
      | (go_at_call 39; refine (rhasN_val _ _ _ _ hfl (by omega) HF.out).mono ?_; rintro e w' ⟨rfl, rfl⟩))
    refine wp_region_noPanic ?_
    refine region_start (S := ISt 35 36 w m o) 5 rfl (by kernel_rfl) (HI6.out.st.drew) (fun hHeld => ?_)
    refine take_at 0 71 (.agg (matA m)) rfl rfl (by kernel_rfl) (by kernel_rfl) (by kernel_rfl) (fun _ _ _ h => h) (yields_row (by rfl) 35 (.tmp 4) rfl (w.heap.size) rfl 35 (matA m) (fun W h => h.gr) Tryd.underlying35 (rmatInfo _)) hHeld ?_
    simp only [put_laws]
    refine take_at 1 72 (.agg (ordA o)) rfl rfl (by kernel_rfl) (by kernel_rfl) (by kernel_rfl) (fun _ _ _ h => h) (yields_row (by rfl) 36 (.tmp 5) rfl (w.heap.size + 1) rfl 36 (ordA o) (fun W h => h.od) Tryd.underlying36 (rordInfo _)) hHeld ?_
    simp only [put_laws]
    refine wpAnyH_ready (rs := [2]) (by kernel_rfl) (by simp) ?_
    refine AllReadyH.cons rfl (fun K hK => ?_) AllReadyH.nil
    obtain ⟨old, hold⟩ := hHeld.rg
    refine step_store_row (by rfl) 35 (.tmp 8) (.tmp 71) (by rfl) (w.heap.size + 2) (matA m) (by rfl) (by rfl) 35 _ hold (rmatInfo _) (by rw [matA_size, matA_size]) (matA_one _) ?_
    clear hold
    obtain ⟨hHeld, hRG⟩ := hHeld.setG (n := m)
    refine hK.out _ _ hHeld (fun hHeld => ?_)
    clear hK K
    refine wpAnyH_ready (rs := [3]) (by kernel_rfl) (by simp) ?_
    refine AllReadyH.cons rfl (fun K hK => ?_) AllReadyH.nil
    obtain ⟨old, hold⟩ := hHeld.ro
    refine step_store_row (by rfl) 36 (.tmp 9) (.tmp 72) (by rfl) (w.heap.size + 3) (ordA o) (by rfl) (by rfl) 36 _ hold (rordInfo _) (by rw [ordA_size, ordA_size]) (ordA_one _) ?_
    clear hold
    have hRG := hRG.setRow (k := w.heap.size + 3) (ordA o) (by omega)
    obtain ⟨hHeld, hRO⟩ := hHeld.setO (q := o)
    refine hK.out _ _ hHeld (fun hHeld => ?_)
    clear hK K
    refine take_at 4 10 (.bool false) rfl rfl (by kernel_rfl) (by kernel_rfl) (by kernel_rfl) (fun _ _ _ h => h) (Or.inl ⟨by rfl, by intro W hW; clear hW; go_simp⟩) hHeld ?_
    simp only [put_laws]
    refine wpAnyH_done (by kernel_rfl) ?_ _
    refine NoPanic.normal ?_
    go_wp2
    have hEnd := hHeld.bel
    refine bodyPost_ret (results_three rfl _ _ (w.heap.size + 2) (w.heap.size + 3) 35 36 (matA m) (ordA o) _ _ _ _ (.bool false) rfl rfl rfl hRG hRO Tryd.underlying35 Tryd.underlying36 (rmatInfo _) (rordInfo _)) rfl ⟨rfl, hEnd⟩
end Go.Proofs.YtakoceablbgchaaDoor
namespace Go.Proofs.YtakoceablbgchaaDoor
open Go.RowKit
attribute [local go_sem ↓] Go.wp_at_zero Go.wp_at_succ
/-- two rows that are made behind base, and share no memory. -/
structure Two (W : World) (base : Nat) (u v : Value) (A B : List Nat) : Prop where
  one : Own W base u A
  two : Own W base v B
  ne : ∀ g, u.ownBlock = some g → v.ownBlock ≠ some g
theorem Two.symm {W : World} {base : Nat} {u v : Value} {A B : List Nat} (h : Two W base u v A B) : Two W base v u B A := ⟨h.two, h.one, fun g h1 h2 => h.ne g h2 h1⟩
theorem Two.below {W W' : World} {base : Nat} {u v : Value} {A B : List Nat} (h : Two W base u v A B) (hb : Below W.heap.size W W') : Two W' base u v A B := ⟨h.one.below hb (Nat.le_refl _), h.two.below hb (Nat.le_refl _), h.ne⟩
theorem Two.push {W W' : World} {ob : Obj} {base : Nat} {u v : Value} {A B : List Nat} {x g c n : Nat} (h : Two W base u v A B) (hn : n = A.length + 1) (hg : (W.alloc ob).grownBy W' u.ownBlock)
    (ho : W'.ownsRow base 3 1 (.slice (some ⟨g, 0, none⟩) n c) n (vals A ++ [.int .i64 (x : Nat)])) (hat : u.ownBlock = some g ∨ W.heap.size ≤ g) : Two W' base (.slice (some ⟨g, 0, none⟩) n c) v (A ++ [x]) B := by
  subst hn
  refine ⟨?_, ?_, fun k hk => ?_⟩
  · unfold Own
    rw [vals_snoc, List.length_append]; exact ho
  · refine World.ownsRow.kept (World.ownsRow.alloc h.two ob) hg ?_
    cases hv : v.ownBlock with
    | none => exact .inl rfl
    | some gv => exact .inr fun e => h.ne gv e.symm hv
  · have e : g = k := by simpa [Value.ownBlock] using hk
    subst e
    rcases hat with h1 | h1
    · exact h.ne g h1
    · intro e
      have := (World.ownsRow.lt h.two g e).2
      omega
/-- the places of a set below k. -/
def placesTo (o : Od.O) (s k : Nat) : List Nat := (List.range k).filter fun p => s.testBit (Od.at_ o p)
theorem placesTo_yes {o : Od.O} {s k : Nat} (h : s.testBit (Od.at_ o k) = true) : placesTo o s k ++ [k] = placesTo o s (k + 1) := by
  unfold placesTo; rw [List.range_succ, List.filter_append]; simp [h]
theorem placesTo_no {o : Od.O} {s k : Nat} (h : s.testBit (Od.at_ o k) = false) : placesTo o s k = placesTo o s (k + 1) := by
  unfold placesTo; rw [List.range_succ, List.filter_append]; simp [h]
theorem placesTo_len (o : Od.O) (s k : Nat) : (placesTo o s k).length ≤ k := by
  have := List.length_filter_le (fun p => s.testBit (Od.at_ o p)) (List.range k)
  simpa [placesTo] using this
theorem or_yes1 {H F i : Nat} (h : H.testBit i = true) : (H ||| F).testBit i = true := by rw [Nat.testBit_or, h]; rfl
theorem or_yes2 {H F i : Nat} (h : F.testBit i = true) : (H ||| F).testBit i = true := by rw [Nat.testBit_or, h]; simp
theorem or_no {H F i : Nat} (h1 : H.testBit i = false) (h2 : F.testBit i = false) : (H ||| F).testBit i = false := by rw [Nat.testBit_or, h1, h2]; rfl
theorem own_cellR {W : World} {base g n c : Nat} {l : List Nat} (h : Own W base (.slice (some ⟨g, 0, none⟩) n c) l) {k : Nat} (hk : k < l.length) : W.cell? ⟨g, k, none⟩ = some (.int .i64 (l[k] : Nat)) := by
  obtain ⟨g', hA, hc⟩ := h.at_ hk
  injection hA with hA
  injection hA with hA
  subst hA
  exact hc
def L1Rel (o : Od.O) (H F : Nat) (w7 : World) (p d i : Value) (wr : World) : Prop :=
  ∃ (k : Nat) (pv dv : Value), pv = p ∧ dv = d ∧ k ≤ 32 ∧ i = .int .i64 k ∧ Two wr w7.heap.size pv dv (placesTo o (H ||| F) k) (standTo o H k) ∧ Below w7.heap.size w7 wr
def L2Rel (o : Od.O) (H F : Nat) (w7 : World) (pv : Value) (d i : Value) (wr : World) : Prop :=
  ∃ (k : Nat) (dv : Value), dv = d ∧ k ≤ 32 ∧ i = .int .i64 k ∧ Two wr w7.heap.size pv dv (Od.placesOf o (H ||| F)) (Od.standing o H ++ standTo o F k) ∧ Below w7.heap.size w7 wr
def L3Rel (m n : Mm.Gr) (o : Od.O) (g1 base : Nat) (w : World) (P L : List Nat) (pv dv i : Value) (wr : World) : Prop :=
  ∃ k : Nat, k ≤ P.length ∧ i = .int .i64 k ∧ Own wr base pv P ∧ Own wr base dv L ∧ IW 35 36 w m (Od.give o ((L.zip P).take k)) g1 n wr
theorem IW.setOd {t u : Nat} {w W : World} {m n : Mm.Gr} {o : Od.O} {g : Nat} (h : IW t u w m o g n W) (k : Nat) (v : Int) : IW t u w m (Od.upd o k v) g n (W.setCell ⟨w.heap.size + 1, k, none⟩ (.int .i64 v)) := by
  have hf := h.far
  refine ⟨⟨h.st.gr.setCell _ _ (by simp), ordAt_cell h.st.od, h.st.rg.imp fun _ h => h.setCell _ _ (by simp), h.st.ro.imp fun _ h => h.setCell _ _ (by simp), ?_, h.st.bel.setCell (by simp) _⟩, h.wi.setCell _ _ (by simp; omega), hf⟩
  intro j hj
  exact (World.cell?_of_block (Below.heap_setCell W ⟨w.heap.size + 1, k, none⟩ (.int .i64 v) 0 (by simp))).trans (h.st.tab j hj)
set_option maxHeartbeats 4000000 in
set_option maxRecDepth 100000 in
theorem rinsert_down (m : Mm.Gr) (o : Od.O) (a b : Nat) (w : World) (hm : Mm.Ok m) (ha : a < 32) (hb : b < 32) (hab : a ≠ b) (hs : Od.Sorted m o) (hlt : o b ≤ o a) (hf : (Od.fore m o a b).testBit a = false) (hT : TabAt w) :
    Calls Tryd.prog 55 #[.agg (matA m), .agg (ordA o), .int .i64 (a : Nat), .int .i64 (b : Nat)] w fun e w' => e = .returned (.tuple #[.agg (matA (Mm.put m a b)), .agg (ordA (Od.relay o (Od.hind m o a b) (Od.fore m o a b))), .bool true]) ∧ Below w.heap.size w w' := by
  obtain ⟨i0, hi, hz0, hz1, hz2⟩ := info_parts int_info
  have HSB := Lib.hid (Od.sortedB_yes hs)
  have HF := Lib.hid hf
  have HFe := Lib.hid (near_fore (o := o) (a := a) (b := b) hm)
  have HHe := Lib.hid (near_hind (o := o) (a := a) (b := b) hm)
  have HNk := Lib.hid (nearTo_ok o (o b) (o a) 32 hm)
  have hfl : Od.fore m o a b < 18446744073709551616 := Nat.lt_trans (Od.fore_lt hb) (by decide)
  have HR := Lib.hid hs.1
  have HA := Lib.hid (Od.both_apart ha hb hf)
  have hhl : Od.hind m o a b < 18446744073709551616 := Nat.lt_trans (Od.hind_lt ha) (by decide)
  clear hs hf
  have HT := Lib.hid (ist_first 35 36 m o hT)
  clear hT
  go_enter Tryd.func55, Tryd.ntmps55
  go_wp2_with (refine wpList_load_row rfl 35 (.tmp 4) rfl w.heap.size rfl 35 (matA m) (0, 0) _ HT.out.gr Tryd.underlying35 rfl (rmatInfo m) ?_)
  refine (rput_yes m a b _ hm ha hb hab).mono ?_
  rintro e w1 ⟨rfl, hb1⟩
  have H1 := Lib.hid (iw_first (n := (Mm.put m a b)) HT.out hb1)
  clear hb1 HT
  go_wp2_with (first
    | (refine wpList_store_row rfl 35 (.tmp 11) (.tmp 27) rfl w1.heap.size (matA (Mm.put m a b)) rfl rfl 35 _ (heap_alloc_new _ _) (rmatInfo _) (by rw [matA_size]; rfl) (matA_one _) ?_; rw [World.setRow_alloc_new])
    | (refine wpList_load_row rfl 35 (.tmp 4) rfl w.heap.size rfl 35 (matA m) (0, 0) _ H1.out.st.gr Tryd.underlying35 rfl (rmatInfo _) ?_)
    | (refine wpList_load_row rfl 36 (.tmp 5) rfl (w.heap.size + 1) rfl 36 (ordA o) (0, 0) _ H1.out.st.od Tryd.underlying36 rfl (rordInfo _) ?_))
  refine (rsorted_val m o true _ hm HSB.out).mono ?_
  rintro e w2 ⟨rfl, hb2⟩
  have H2 := Lib.hid (H1.out.below hb2)
  clear hb2 H1
  have hc1 := H2.out.st.od.cell a ha
  have hc2 := H2.out.st.od.cell b hb
  go_wp2
  go_quiet (fail)
  have H3 := Lib.hid (H2.out.below (below_drewN (Below.refl _ _) nq))
  clear H2 hc1 hc2
  go_wp2
  refine wp_region_noPanic ?_
  refine region_start (S := Below (w2.drewN nq).heap.size (w2.drewN nq)) 11 rfl (by kernel_rfl) (below_drew _) (fun hHeld => ?_)
  refine take_at 0 48 (.agg (matA m)) rfl rfl (by kernel_rfl) (by kernel_rfl) (by kernel_rfl) (fun _ _ _ h => h) (yields_row (by rfl) 35 (.tmp 4) rfl (w.heap.size) rfl 35 (matA m) (fun W h => (H3.out.below h).st.gr) Tryd.underlying35 (rmatInfo _)) hHeld ?_
  simp only [put_laws]
  refine take_at 1 49 (.agg (ordA o)) rfl rfl (by kernel_rfl) (by kernel_rfl) (by kernel_rfl) (fun _ _ _ h => h) (yields_row (by rfl) 36 (.tmp 5) rfl (w.heap.size + 1) rfl 36 (ordA o) (fun W h => (H3.out.below h).st.od) Tryd.underlying36 (rordInfo _)) hHeld ?_
  simp only [put_laws]
  refine take_at 2 50 (.int .i64 (b : Nat)) rfl rfl (by kernel_rfl) (by kernel_rfl) (by kernel_rfl) (fun _ _ _ h => h) (Or.inl ⟨by rfl, by intro W hW; clear hW; go_simp⟩) hHeld ?_
  simp only [put_laws]
  refine take_at 3 51 (.pointer (some ⟨w.heap.size + 1, b, none⟩)) rfl rfl (by kernel_rfl) (by kernel_rfl) (by kernel_rfl) (fun _ _ _ h => h) (Or.inl ⟨by rfl, by intro W hW; clear hW; go_simp; try (intro h; omega)⟩) hHeld ?_
  simp only [put_laws]
  refine take_at 4 52 (.int .i64 (o b)) rfl rfl (by kernel_rfl) (by kernel_rfl) (by kernel_rfl) (fun _ _ _ h => h) (Or.inl ⟨by rfl, by intro W hW; have hc := (H3.out.below hW).st.od.cell b hb; clear hW; go_simp⟩) hHeld ?_
  simp only [put_laws]
  refine take_at 5 53 (.int .i64 (a : Nat)) rfl rfl (by kernel_rfl) (by kernel_rfl) (by kernel_rfl) (fun _ _ _ h => h) (Or.inl ⟨by rfl, by intro W hW; clear hW; go_simp⟩) hHeld ?_
  simp only [put_laws]
  refine take_at 6 54 (.pointer (some ⟨w.heap.size + 1, a, none⟩)) rfl rfl (by kernel_rfl) (by kernel_rfl) (by kernel_rfl) (fun _ _ _ h => h) (Or.inl ⟨by rfl, by intro W hW; clear hW; go_simp; try (intro h; omega)⟩) hHeld ?_
  simp only [put_laws]
  refine take_at 7 55 (.int .i64 (o a)) rfl rfl (by kernel_rfl) (by kernel_rfl) (by kernel_rfl) (fun _ _ _ h => h) (Or.inl ⟨by rfl, by intro W hW; have hc := (H3.out.below hW).st.od.cell a ha; clear hW; go_simp⟩) hHeld ?_
  simp only [put_laws]
  refine wpAnyH_ready (rs := [8, 9]) (by kernel_rfl) (by simp) ?_
  refine AllReadyH.cons rfl (fun K hK => ?_) (AllReadyH.cons rfl (fun K hK => ?_) AllReadyH.nil)
  · go_simp
    refine (within_any m o _ _ _ hm).mono ?_
    rintro e w3 ⟨rfl, hb3⟩
    try go_simp
    have hHeld := hHeld.trans (hb3.mono hHeld.size)
    have hKeep := hHeld
    refine hK.out _ _ hHeld (fun hHeld => ?_)
    clear hK K hb3
    refine wpAnyH_ready (rs := [9]) (by kernel_rfl) (by simp) ?_
    refine AllReadyH.cons rfl (fun K hK => ?_) AllReadyH.nil
    go_simp
    refine hK.out _ _ (hHeld.alloc hHeld.size _) (fun hHeld => ?_)
    clear hK K
    refine wpAnyH_ready (rs := [10]) (by kernel_rfl) (by simp) ?_
    refine AllReadyH.cons rfl (fun K hK => ?_) AllReadyH.nil
    refine step_store_row (by rfl) 35 (.tmp 13) (.tmp 56) (by rfl) w3.heap.size (matA (nearTo m o (o b) (o a) 32)) (by rfl) (by rfl) 35 _ (heap_alloc_new _ _) (rmatInfo _) (by rw [matA_size]; rfl) (matA_one _) ?_
    rw [World.setRow_alloc_new]
    have hHeld := hKeep.alloc hKeep.size (.cells (matA (nearTo m o (o b) (o a) 32)) 35)
    have HN := Lib.hid (matAt_new w3 (nearTo m o (o b) (o a) 32) 35)
    refine hK.out _ _ hHeld (fun hHeld => ?_)
    clear hK K hKeep
    refine wpAnyH_done (by kernel_rfl) ?_ _
    refine NoPanic.normal ?_
    have HI := Lib.hid (H3.out.below hHeld)
    clear hHeld H3
    go_wp2_with (refine wpList_load_row rfl 35 (.tmp 13) rfl w3.heap.size rfl 35 (matA (nearTo m o (o b) (o a) 32)) (0, 0) _ HN.out Tryd.underlying35 rfl (rmatInfo _) ?_)
    refine (rreach_in _ b _ HNk.out hb).mono ?_
    rintro e w4 ⟨rfl, hb4⟩
    have HI4 := Lib.hid (HI.out.below hb4)
    have HN4 := Lib.hid (HN.out.below hb4)
    clear hb4 HI HN
    go_wp2_with (first
      | (go_at_call 57; refine (rwith_val _ _ _ _ (Mm.ways_lt _ _) (by omega) HFe.out).mono ?_; rintro e w' ⟨rfl, rfl⟩)
      | (refine wpList_load_row rfl 35 (.tmp 13) rfl w3.heap.size rfl 35 (matA (nearTo m o (o b) (o a) 32)) (0, 0) _ HN4.out Tryd.underlying35 rfl (rmatInfo _) ?_))
    refine (turn_any _ _ HNk.out).mono ?_
    rintro e w5 ⟨rfl, hb5⟩
    have HI5 := Lib.hid (HI4.out.below hb5)
    clear hb5 HI4 HN4
    go_wp2_with fail
    refine (rreach_in _ a _ (turn_ok _) ha).mono ?_
    rintro e w6 ⟨rfl, hb6⟩
    have HI6 := Lib.hid (HI5.out.below hb6)
    clear hb6 HI5
    go_wp2_with (first
      | (go_at_call 57; refine (rwith_val _ _ _ _ (Mm.ways_lt _ _) (by omega) HHe.out).mono ?_; rintro e w' ⟨rfl, rfl⟩)
      | (go_at_call 39; refine (rhasN_val _ _ _ _ hfl (by omega) HF.out).mono ?_; rintro e w' ⟨rfl, rfl⟩)
      | (refine wpList_load_row rfl 36 (.tmp 5) rfl (w.heap.size + 1) rfl 36 (ordA o) (0, 0) _ HI6.out.st.od Tryd.underlying36 rfl (rordInfo _) ?_))
    refine (rrow_yes o _ HR.out).mono ?_
    rintro e w7 ⟨vr, rfl, hownr, hb7⟩
    have HI7 := Lib.hid (HI6.out.below hb7)
    have HW0 := Lib.hid hownr
    obtain ⟨gr, cr, hvr, _, _⟩ := World.ownsRow.form hownr (by rw [Od.row_len]; decide)
    rw [Od.row_len] at hvr
    subst hvr
    have HW := Lib.hid (show Own w7 w6.heap.size (.slice (some ⟨gr, 0, none⟩) 32 cr) (Od.row o) from HW0.out)
    clear hownr hb7 HI6 HW0
    go_wp2
    go_loopw [17, 18, 19] (L1Rel o (Od.hind m o a b) (Od.fore m o a b) w7) (fun _ _ i _ => 32 - (intOf i).toNat)
    case atStart => exact ⟨0, _, _, rfl, rfl, by omega, rfl, ⟨own_nil _ _, own_nil _ _, fun g h => by simp [Value.ownBlock] at h⟩, Below.refl _ _⟩
    case round =>
      obtain ⟨k, pv, dv, rfl, rfl, hk, rfl, hT2, hB⟩ := hrel
      have HT2 := Lib.hid hT2
      have HB := Lib.hid hB
      have hsz := hB.size
      clear hT2 hB
      have hlp := placesTo_len o (Od.hind m o a b ||| Od.fore m o a b) k
      have hls := standTo_len o (Od.hind m o a b) k
      by_cases hlt : k < 32
      · have ha32 := (Od.at_spec HR.out hlt).1
        have hr := (HW.out.below HB.out (Nat.le_refl _)).at_ (k := k) (by rw [Od.row_len]; exact hlt)
        obtain ⟨gr', hA, hcr⟩ := hr
        injection hA with hA
        injection hA with hA
        subst hA
        rw [row_at o] at hcr
        cases hbH : (Od.hind m o a b).testBit (Od.at_ o k)
        · have HH := Lib.hid hbH
          have HSn := Lib.hid (standTo_no hlt hbH)
          cases hbF : (Od.fore m o a b).testBit (Od.at_ o k)
          · have HFk := Lib.hid hbF
            have HPn := Lib.hid (placesTo_no (or_no hbH hbF))
            clear hbH hbF
            go_wp2_with (first
              | (go_at_call_of 39 (Od.fore m o a b); refine (rhasN_val _ _ _ _ hfl (by omega) HFk.out).mono ?_; rintro e w' ⟨rfl, rfl⟩)
              | (go_at_call 39; refine (rhasN_val _ _ _ _ hhl (by omega) HH.out).mono ?_; rintro e w' ⟨rfl, rfl⟩))
            refine ⟨⟨k + 1, _, _, rfl, rfl, by omega, by go_num, ?_, HB.out⟩, by simp [intOf]; omega⟩
            rw [HSn.out, ← HPn.out]; exact HT2.out
          · have HFk := Lib.hid hbF
            have HPy := Lib.hid (placesTo_yes (or_yes2 (H := Od.hind m o a b) hbF))
            clear hbH hbF
            go_wp2_with (first
              | (go_at_call_of 39 (Od.fore m o a b); refine (rhasN_val _ _ _ _ hfl (by omega) HFk.out).mono ?_; rintro e w' ⟨rfl, rfl⟩)
              | (go_at_call 39; refine (rhasN_val _ _ _ _ hhl (by omega) HH.out).mono ?_; rintro e w' ⟨rfl, rfl⟩)
              | (at_builtin; refine wpList_append_lies _ rfl _ _ 48 rfl w7.heap.size 3 i0 (.int .i64 0) 1 8 Tryd.underlying48 hi hz0 hz1 hz2 rfl (by decide) _ _ _ rfl (World.ownsRow.alloc HT2.out.one _) ⟨wr.heap.size, 0, none⟩ 1 1 [.int .i64 (k : Nat)] rfl rfl ?c1 ?c2 (by decide) ?c3 ?c4 ?c5 _ rfl ?_))
            case c1 =>
              intro j u hj
              match j, hj with
              | 0, hj => simp at hj; subst hj; simp [Addr.add]
            case c2 => intro u hu; simp at hu; subst hu; rfl
            case c3 => unfold maxLen; omega
            case c4 => omega
            case c5 => simp; omega
            intro ga ca wa hown hgrow hat _
            have HTa := Lib.hid (HT2.out.push (x := k) rfl hgrow (by exact hown) (hat.imp id fun e => by rw [e]; simp))
            have HBa := Lib.hid ((HB.out.alloc HB.out.size _).grown hgrow (by have := HB.out.size; simp; omega) (fun k hk => (World.ownsRow.lt HT2.out.one k hk).1))
            have hszwa := HBa.out.size
            clear hown hgrow hat
            go_wp2
            refine ⟨⟨k + 1, _, _, rfl, rfl, by omega, by go_num, ?_, HBa.out⟩, by simp [intOf]; omega⟩
            rw [HSn.out, ← HPy.out]; exact HTa.out
        · have HH := Lib.hid hbH
          have HSy := Lib.hid (standTo_yes hlt hbH)
          have HPy := Lib.hid (placesTo_yes (or_yes1 (F := Od.fore m o a b) hbH))
          clear hbH
          go_wp2_with (first
            | (go_at_call 39; refine (rhasN_val _ _ _ _ hhl (by omega) HH.out).mono ?_; rintro e w' ⟨rfl, rfl⟩)
            | (at_builtin; refine wpList_append_lies _ rfl _ _ 48 rfl w7.heap.size 3 i0 (.int .i64 0) 1 8 Tryd.underlying48 hi hz0 hz1 hz2 rfl (by decide) _ _ _ rfl (World.ownsRow.alloc HT2.out.two _) ⟨wr.heap.size, 0, none⟩ 1 1 [.int .i64 (Od.at_ o k : Nat)] rfl rfl ?c1 ?c2 (by decide) ?c3 ?c4 ?c5 _ rfl ?_))
          case c1 =>
            intro j u hj
            match j, hj with
            | 0, hj => simp at hj; subst hj; simp [Addr.add]
          case c2 => intro u hu; simp at hu; subst hu; rfl
          case c3 => unfold maxLen; omega
          case c4 => omega
          case c5 => simp; omega
          intro ga ca wa hown hgrow hat _
          have HTa := Lib.hid ((HT2.out.symm.push (x := Od.at_ o k) rfl hgrow (by exact hown) (hat.imp id fun e => by rw [e]; simp)).symm)
          have HBa := Lib.hid ((HB.out.alloc HB.out.size _).grown hgrow (by have := HB.out.size; simp; omega) (fun k hk => (World.ownsRow.lt HT2.out.symm.one k hk).1))
          have hszwa := HBa.out.size
          clear hown hgrow hat
          have hs := (HW.out.below HBa.out (Nat.le_refl _)).at_ (k := k) (by rw [Od.row_len]; exact hlt)
          obtain ⟨gr', hA, hcs⟩ := hs
          injection hA with hA
          injection hA with hA
          subst hA
          rw [row_at o] at hcs
          go_wp2_with (first
            | (go_at_call 39; refine (rhasN_val _ _ _ _ hhl (by omega) HH.out).mono ?_; rintro e w' ⟨rfl, rfl⟩)
            | (at_builtin; refine wpList_append_lies _ rfl _ _ 48 rfl w7.heap.size 3 i0 (.int .i64 0) 1 8 Tryd.underlying48 hi hz0 hz1 hz2 rfl (by decide) _ _ _ rfl (World.ownsRow.alloc HTa.out.one _) ⟨wa.heap.size, 0, none⟩ 1 1 [.int .i64 (k : Nat)] rfl rfl ?c1 ?c2 (by decide) ?c3 ?c4 ?c5 _ rfl ?_))
          case c1 =>
            intro j u hj
            match j, hj with
            | 0, hj => simp at hj; subst hj; simp [Addr.add]
          case c2 => intro u hu; simp at hu; subst hu; rfl
          case c3 => unfold maxLen; omega
          case c4 => omega
          case c5 => simp; omega
          intro ga ca wb hown hgrow hat _
          have HTb := Lib.hid (HTa.out.push (x := k) rfl hgrow (by exact hown) (hat.imp id fun e => by rw [e]; simp))
          have HBb := Lib.hid ((HBa.out.alloc HBa.out.size _).grown hgrow (by have := HBa.out.size; simp; omega) (fun k hk => (World.ownsRow.lt HTa.out.one k hk).1))
          have hszwb := HBb.out.size
          clear hown hgrow hat
          go_wp2
          refine ⟨⟨k + 1, _, _, rfl, rfl, by omega, by go_num, ?_, HBb.out⟩, by simp [intOf]; omega⟩
          rw [HSy.out, ← HPy.out]; exact HTb.out
      · obtain rfl : k = 32 := by omega
        have HT3 := Lib.hid (show Two wr w7.heap.size pv dv (Od.placesOf o (Od.hind m o a b ||| Od.fore m o a b)) (Od.standing o (Od.hind m o a b) ++ standTo o (Od.fore m o a b) 0) from by
          have h := HT2.out
          rw [standTo_all] at h
          have e : Od.standing o (Od.hind m o a b) ++ standTo o (Od.fore m o a b) 0 = Od.standing o (Od.hind m o a b) := by simp [standTo]
          rw [e]; exact h)
        clear HT2 hls hlp
        rw [show ((32 : Nat) : Int) = (32 : Int) from rfl]
        go_wp2
        go_loopw [18, 20] (L2Rel o (Od.hind m o a b) (Od.fore m o a b) w7 pv) (fun _ i _ => 32 - (intOf i).toNat)
        case atStart => exact ⟨0, _, rfl, by omega, rfl, HT3.out, HB.out⟩
        case round =>
          clear HT3 HB
          obtain ⟨k, dv, rfl, hk, rfl, hT2, hB⟩ := hrel
          have HT2 := Lib.hid hT2
          have HB := Lib.hid hB
          have hsz := hB.size
          clear hT2 hB
          have hlh := Od.standing_len o (Od.hind m o a b)
          have hls := standTo_len o (Od.fore m o a b) k
          have hll : (Od.standing o (Od.hind m o a b) ++ standTo o (Od.fore m o a b) k).length ≤ 64 := by rw [List.length_append]; omega
          by_cases hlt : k < 32
          · have ha32 := (Od.at_spec HR.out hlt).1
            have hr := (HW.out.below HB.out (Nat.le_refl _)).at_ (k := k) (by rw [Od.row_len]; exact hlt)
            obtain ⟨gr', hA, hcr⟩ := hr
            injection hA with hA
            injection hA with hA
            subst hA
            rw [row_at o] at hcr
            cases hbF : (Od.fore m o a b).testBit (Od.at_ o k)
            · have HFk := Lib.hid hbF
              have HSn := Lib.hid (standTo_no hlt hbF)
              clear hbF
              go_wp2_with (go_at_call 39; refine (rhasN_val _ _ _ _ hfl (by omega) HFk.out).mono ?_; rintro e w' ⟨rfl, rfl⟩)
              refine ⟨⟨k + 1, _, rfl, by omega, by go_num, ?_, HB.out⟩, by simp [intOf]; omega⟩
              rw [HSn.out]; exact HT2.out
            · have HFk := Lib.hid hbF
              have HSy := Lib.hid (standTo_yes hlt hbF)
              clear hbF
              generalize hG : Od.standing o (Od.hind m o a b) ++ standTo o (Od.fore m o a b) k = G at *
              have HG := Lib.hid hG
              clear hG
              go_wp2_with (first
                | (go_at_call 39; refine (rhasN_val _ _ _ _ hfl (by omega) HFk.out).mono ?_; rintro e w' ⟨rfl, rfl⟩)
                | (at_builtin; refine wpList_append_lies _ rfl _ _ 48 rfl w7.heap.size 3 i0 (.int .i64 0) 1 8 Tryd.underlying48 hi hz0 hz1 hz2 rfl (by decide) _ _ _ rfl (World.ownsRow.alloc HT2.out.two _) ⟨wr.heap.size, 0, none⟩ 1 1 [.int .i64 (Od.at_ o k : Nat)] rfl rfl ?c1 ?c2 (by decide) ?c3 ?c4 ?c5 _ rfl ?_))
              case c1 =>
                intro j u hj
                match j, hj with
                | 0, hj => simp at hj; subst hj; simp [Addr.add]
              case c2 => intro u hu; simp at hu; subst hu; rfl
              case c3 => unfold maxLen; omega
              case c4 => omega
              case c5 => simp; omega
              intro ga ca wa hown hgrow hat _
              have HTa := Lib.hid ((HT2.out.symm.push (x := Od.at_ o k) rfl hgrow (by exact hown) (hat.imp id fun e => by rw [e]; simp)).symm)
              have HBa := Lib.hid ((HB.out.alloc HB.out.size _).grown hgrow (by have := HB.out.size; simp; omega) (fun k hk => (World.ownsRow.lt HT2.out.symm.one k hk).1))
              have hszwa := HBa.out.size
              clear hown hgrow hat
              go_wp2
              refine ⟨⟨k + 1, _, rfl, by omega, by go_num, ?_, HBa.out⟩, by simp [intOf]; omega⟩
              rw [HSy.out, ← List.append_assoc, HG.out]; exact HTa.out
          · obtain rfl : k = 32 := by omega
            have HT4 := Lib.hid (show Two wr w7.heap.size pv dv (Od.placesOf o (Od.hind m o a b ||| Od.fore m o a b)) (Od.standing o (Od.hind m o a b) ++ Od.standing o (Od.fore m o a b)) from by
              have h := HT2.out
              rw [standTo_all] at h
              exact h)
            clear HT2 hls hll
            rw [show ((32 : Nat) : Int) = (32 : Int) from rfl]
            have hbase : w.heap.size + 1 < w7.heap.size := HI7.out.st.od.lt
            have HI9 := Lib.hid (HI7.out.below HB.out)
            obtain ⟨Ap, cp, hvp, hcp1, hcp2⟩ := HT4.out.one.shape
            obtain ⟨Ad, cd, hvd, hcd1, hcd2⟩ := HT4.out.two.shape
            obtain ⟨nL, hNL⟩ : ∃ nL, (Od.standing o (Od.hind m o a b) ++ Od.standing o (Od.fore m o a b)).length = nL := ⟨_, rfl⟩
            rw [hNL] at hvd hcd1
            have HP9 := Lib.hid HT4.out.one
            have HD9 := Lib.hid HT4.out.two
            have hlP := Od.both_len HR.out HA.out
            have hPl := Od.places_len o (Od.hind m o a b ||| Od.fore m o a b)
            have HPm := Lib.hid (show ∀ k (h : k < (Od.placesOf o (Od.hind m o a b ||| Od.fore m o a b)).length), (Od.placesOf o (Od.hind m o a b ||| Od.fore m o a b))[k] < 32 from fun k h => (Od.places_mem.1 (List.getElem_mem h)).1)
            have HLm := Lib.hid (show ∀ k (h : k < (Od.standing o (Od.hind m o a b) ++ Od.standing o (Od.fore m o a b)).length), (Od.standing o (Od.hind m o a b) ++ Od.standing o (Od.fore m o a b))[k] < 32 from fun k h => both_lt HR.out h)
            have HRl := Lib.hid (show Od.give o ((Od.standing o (Od.hind m o a b) ++ Od.standing o (Od.fore m o a b)).zip (Od.placesOf o (Od.hind m o a b ||| Od.fore m o a b))) = Od.relay o (Od.hind m o a b) (Od.fore m o a b) from rfl)
            subst hvp
            subst hvd
            generalize Od.standing o (Od.hind m o a b) ++ Od.standing o (Od.fore m o a b) = L at *
            generalize Od.placesOf o (Od.hind m o a b ||| Od.fore m o a b) = P at *
            have HLP := Lib.hid hlP
            have HNL := Lib.hid hNL
            clear hlP hNL HT4
            go_wp2
            go_loopw [21] (L3Rel m (Mm.put m a b) o w1.heap.size w7.heap.size w P L (.slice Ap P.length cp) (.slice Ad nL cd)) (fun i _ => 64 - (intOf i).toNat)
            case atStart => exact ⟨0, by omega, rfl, HP9.out, HD9.out, HI9.out⟩
            case round =>
              obtain ⟨n, hn, rfl, hownP, hownL, hst⟩ := hrel
              have HP2 := Lib.hid hownP
              have HL2 := Lib.hid hownL
              have HS2 := Lib.hid hst
              by_cases hnl : n < P.length
              · have hnL : n < nL := by have := HLP.out; have := HNL.out; omega
                have hnL' : n < L.length := by rw [HNL.out]; exact hnL
                obtain ⟨gd, hA, hcd⟩ := hownL.at_ hnL'
                subst hA
                obtain ⟨gp, hA, hcp⟩ := hownP.at_ hnl
                subst hA
                have hp32 := HPm.out n hnl
                have hx32 := HLm.out n hnL'
                have HGv := Lib.hid (Od.give_step (o := o) (L := L) (P := P) (k := n) (List.getElem?_eq_getElem hnL') (List.getElem?_eq_getElem hnl))
                have HCd := Lib.hid (fun W (h : Own W w7.heap.size (.slice (some ⟨gd, 0, none⟩) nL cd) L) => own_cellR h hnL')
                have HCp := Lib.hid (fun W (h : Own W w7.heap.size (.slice (some ⟨gp, 0, none⟩) P.length cp) P) => own_cellR h hnl)
                generalize L[n] = x at *
                generalize P[n] = p at *
                have hd := hst.st.od.cell x hx32
                have hf := hst.st.od.frozen x
                clear hownL hownP hst hnL' hcd hcp
                go_wp2
                refine wp_region_noPanic ?_
                refine region_start (S := fun W => Own W w7.heap.size (.slice (some ⟨gp, 0, none⟩) P.length cp) P ∧ Own W w7.heap.size (.slice (some ⟨gd, 0, none⟩) nL cd) L) 10 rfl (by kernel_rfl) (⟨HP2.out.below (below_drew _) (Nat.le_refl _), HL2.out.below (below_drew _) (Nat.le_refl _)⟩) (fun hHeld => ?_)
                refine take_at 0 133 (.slice (some ⟨gd, 0, none⟩) nL cd) rfl rfl (by kernel_rfl) (by kernel_rfl) (by kernel_rfl) (fun _ _ _ h => h) (Or.inl ⟨by rfl, by intro W hW; clear hW; go_simp⟩) hHeld ?_
                simp only [put_laws]
                refine take_at 1 134 (.int .i64 (n : Nat)) rfl rfl (by kernel_rfl) (by kernel_rfl) (by kernel_rfl) (fun _ _ _ h => h) (Or.inl ⟨by rfl, by intro W hW; clear hW; go_simp⟩) hHeld ?_
                simp only [put_laws]
                refine take_at 2 135 (.pointer (some ⟨gd, n, none⟩)) rfl rfl (by kernel_rfl) (by kernel_rfl) (by kernel_rfl) (fun _ _ _ h => h) (Or.inl ⟨by rfl, by intro W hW; clear hW; go_simp; try (intro h; omega)⟩) hHeld ?_
                simp only [put_laws]
                refine take_at 3 136 (.int .i64 (x : Nat)) rfl rfl (by kernel_rfl) (by kernel_rfl) (by kernel_rfl) (fun _ _ _ h => h) (Or.inl ⟨by rfl, by intro W hW; have hc := HCd.out W hW.2; clear hW; go_simp⟩) hHeld ?_
                simp only [put_laws]
                refine take_at 4 137 (.slice (some ⟨gp, 0, none⟩) P.length cp) rfl rfl (by kernel_rfl) (by kernel_rfl) (by kernel_rfl) (fun _ _ _ h => h) (Or.inl ⟨by rfl, by intro W hW; clear hW; go_simp⟩) hHeld ?_
                simp only [put_laws]
                refine take_at 5 138 (.int .i64 (n : Nat)) rfl rfl (by kernel_rfl) (by kernel_rfl) (by kernel_rfl) (fun _ _ _ h => h) (Or.inl ⟨by rfl, by intro W hW; clear hW; go_simp⟩) hHeld ?_
                simp only [put_laws]
                refine take_at 6 139 (.pointer (some ⟨gp, n, none⟩)) rfl rfl (by kernel_rfl) (by kernel_rfl) (by kernel_rfl) (fun _ _ _ h => h) (Or.inl ⟨by rfl, by intro W hW; clear hW; go_simp; try (intro h; omega)⟩) hHeld ?_
                simp only [put_laws]
                refine take_at 7 140 (.int .i64 (p : Nat)) rfl rfl (by kernel_rfl) (by kernel_rfl) (by kernel_rfl) (fun _ _ _ h => h) (Or.inl ⟨by rfl, by intro W hW; have hc := HCp.out W hW.1; clear hW; go_simp⟩) hHeld ?_
                simp only [put_laws]
                refine take_at 8 141 (.pointer (some ⟨w.heap.size + 1, x, none⟩)) rfl rfl (by kernel_rfl) (by kernel_rfl) (by kernel_rfl) (fun _ _ _ h => h) (Or.inl ⟨by rfl, by intro W hW; clear hW; go_simp; try (intro h; omega)⟩) hHeld ?_
                simp only [put_laws]
                refine wpAnyH_ready (rs := [9]) (by kernel_rfl) (by simp) ?_
                refine AllReadyH.cons rfl (fun K hK => ?_) AllReadyH.nil
                go_simp
                refine hK.out _ _ ⟨hHeld.1.setCell _ _ hbase, hHeld.2.setCell _ _ hbase⟩ (fun hHeld => ?_)
                clear hK K
                refine wpAnyH_done (by kernel_rfl) ?_ _
                refine NoPanic.normal ?_
                go_wp2
                refine ⟨⟨n + 1, by omega, by go_num, hHeld.1, hHeld.2, ?_⟩, by simp [intOf]; omega⟩
                rw [← HGv.out]
                exact (HS2.out.setOd x p).below (below_drew _)
              · obtain rfl : n = P.length := by omega
                have HE := Lib.hid (show IW 35 36 w m (Od.relay o (Od.hind m o a b) (Od.fore m o a b)) w1.heap.size (Mm.put m a b) wr from by
                  have h := HS2.out
                  rw [List.take_of_length_le (by rw [List.length_zip, HLP.out]; exact Nat.min_le_left _ _), HRl.out] at h
                  exact h)
                clear hownL hownP hst
                go_wp2
                refine wp_region_noPanic ?_
                refine region_start (S := IW 35 36 w m (Od.relay o (Od.hind m o a b) (Od.fore m o a b)) w1.heap.size (Mm.put m a b)) 5 rfl (by kernel_rfl) (HE.out.below (below_drew _)) (fun hHeld => ?_)
                refine take_at 0 142 (.agg (matA (Mm.put m a b))) rfl rfl (by kernel_rfl) (by kernel_rfl) (by kernel_rfl) (fun _ _ _ h => h) (yields_row (by rfl) 35 (.tmp 11) rfl (w1.heap.size) rfl 35 (matA (Mm.put m a b)) (fun W h => h.wi) Tryd.underlying35 (rmatInfo _)) hHeld ?_
                simp only [put_laws]
                refine take_at 1 143 (.agg (ordA (Od.relay o (Od.hind m o a b) (Od.fore m o a b)))) rfl rfl (by kernel_rfl) (by kernel_rfl) (by kernel_rfl) (fun _ _ _ h => h) (yields_row (by rfl) 36 (.tmp 5) rfl (w.heap.size + 1) rfl 36 (ordA (Od.relay o (Od.hind m o a b) (Od.fore m o a b))) (fun W h => h.st.od) Tryd.underlying36 (rordInfo _)) hHeld ?_
                simp only [put_laws]
                refine wpAnyH_ready (rs := [2]) (by kernel_rfl) (by simp) ?_
                refine AllReadyH.cons rfl (fun K hK => ?_) AllReadyH.nil
                obtain ⟨old, hold⟩ := hHeld.st.rg
                refine step_store_row (by rfl) 35 (.tmp 8) (.tmp 142) (by rfl) (w.heap.size + 2) (matA (Mm.put m a b)) (by rfl) (by rfl) 35 _ hold (rmatInfo _) (by rw [matA_size, matA_size]) (matA_one _) ?_
                clear hold
                have hRG := (hHeld.st.setG (n := (Mm.put m a b))).2
                have hHeld := hHeld.setG (k := (Mm.put m a b))
                refine hK.out _ _ hHeld (fun hHeld => ?_)
                clear hK K
                refine wpAnyH_ready (rs := [3]) (by kernel_rfl) (by simp) ?_
                refine AllReadyH.cons rfl (fun K hK => ?_) AllReadyH.nil
                obtain ⟨old, hold⟩ := hHeld.st.ro
                refine step_store_row (by rfl) 36 (.tmp 9) (.tmp 143) (by rfl) (w.heap.size + 3) (ordA (Od.relay o (Od.hind m o a b) (Od.fore m o a b))) (by rfl) (by rfl) 36 _ hold (rordInfo _) (by rw [ordA_size, ordA_size]) (ordA_one _) ?_
                clear hold
                have hRG := hRG.setRow (k := w.heap.size + 3) (ordA (Od.relay o (Od.hind m o a b) (Od.fore m o a b))) (by omega)
                have hRO := (hHeld.st.setO (q := (Od.relay o (Od.hind m o a b) (Od.fore m o a b)))).2
                have hHeld := hHeld.setO (q := (Od.relay o (Od.hind m o a b) (Od.fore m o a b)))
                refine hK.out _ _ hHeld (fun hHeld => ?_)
                clear hK K
                refine take_at 4 10 (.bool true) rfl rfl (by kernel_rfl) (by kernel_rfl) (by kernel_rfl) (fun _ _ _ h => h) (Or.inl ⟨by rfl, by intro W hW; clear hW; go_simp⟩) hHeld ?_
                simp only [put_laws]
                refine wpAnyH_done (by kernel_rfl) ?_ _
                refine NoPanic.normal ?_
                go_wp2
                have hEnd := hHeld.st.bel
                refine bodyPost_ret (results_three rfl _ _ (w.heap.size + 2) (w.heap.size + 3) 35 36 (matA (Mm.put m a b)) (ordA (Od.relay o (Od.hind m o a b) (Od.fore m o a b))) _ _ _ _ (.bool true) rfl rfl rfl hRG hRO Tryd.underlying35 Tryd.underlying36 (rmatInfo _) (rordInfo _)) rfl ⟨rfl, hEnd⟩
  · go_simp
    refine hK.out _ _ (hHeld.alloc hHeld.size _) (fun hHeld => ?_)
    clear hK K
    refine wpAnyH_ready (rs := [8]) (by kernel_rfl) (by simp) ?_
    refine AllReadyH.cons rfl (fun K hK => ?_) AllReadyH.nil
    go_simp
    refine (within_any m o _ _ _ hm).mono ?_
    rintro e w3 ⟨rfl, hb3⟩
    try go_simp
    have hHeld := hHeld.trans (hb3.mono hHeld.size)
    have hN0 := kept_block hb3
    refine hK.out _ _ hHeld (fun hHeld => ?_)
    clear hK K hb3
    refine wpAnyH_ready (rs := [10]) (by kernel_rfl) (by simp) ?_
    refine AllReadyH.cons rfl (fun K hK => ?_) AllReadyH.nil
    refine step_store_row (by rfl) 35 (.tmp 13) (.tmp 56) (by rfl) w2.heap.size (matA (nearTo m o (o b) (o a) 32)) (by rfl) (by rfl) 35 _ hN0 (rmatInfo _) (by rw [matA_size]; rfl) (matA_one _) ?_
    have hHeld := setRow_below (cs := matA (nearTo m o (o b) (o a) 32)) hHeld (Nat.le_refl w2.heap.size)
    have HN := Lib.hid (show MatAt (w3.setRow w2.heap.size (matA (nearTo m o (o b) (o a) 32))) w2.heap.size (nearTo m o (o b) (o a) 32) 35 from setRow_heap _ _ _ _ _ _ hN0)
    refine hK.out _ _ hHeld (fun hHeld => ?_)
    clear hK K hN0
    refine wpAnyH_done (by kernel_rfl) ?_ _
    refine NoPanic.normal ?_
    have HI := Lib.hid (H3.out.below hHeld)
    clear hHeld H3
    go_wp2_with (refine wpList_load_row rfl 35 (.tmp 13) rfl w2.heap.size rfl 35 (matA (nearTo m o (o b) (o a) 32)) (0, 0) _ HN.out Tryd.underlying35 rfl (rmatInfo _) ?_)
    refine (rreach_in _ b _ HNk.out hb).mono ?_
    rintro e w4 ⟨rfl, hb4⟩
    have HI4 := Lib.hid (HI.out.below hb4)
    have HN4 := Lib.hid (HN.out.below hb4)
    clear hb4 HI HN
    go_wp2_with (first
      | (go_at_call 57; refine (rwith_val _ _ _ _ (Mm.ways_lt _ _) (by omega) HFe.out).mono ?_; rintro e w' ⟨rfl, rfl⟩)
      | (refine wpList_load_row rfl 35 (.tmp 13) rfl w2.heap.size rfl 35 (matA (nearTo m o (o b) (o a) 32)) (0, 0) _ HN4.out Tryd.underlying35 rfl (rmatInfo _) ?_))
    refine (turn_any _ _ HNk.out).mono ?_
    rintro e w5 ⟨rfl, hb5⟩
    have HI5 := Lib.hid (HI4.out.below hb5)
    clear hb5 HI4 HN4
    go_wp2_with fail
    refine (rreach_in _ a _ (turn_ok _) ha).mono ?_
    rintro e w6 ⟨rfl, hb6⟩
    have HI6 := Lib.hid (HI5.out.below hb6)
    clear hb6 HI5
    go_wp2_with (first
      | (go_at_call 57; refine (rwith_val _ _ _ _ (Mm.ways_lt _ _) (by omega) HHe.out).mono ?_; rintro e w' ⟨rfl, rfl⟩)
      | (go_at_call 39; refine (rhasN_val _ _ _ _ hfl (by omega) HF.out).mono ?_; rintro e w' ⟨rfl, rfl⟩)
      | (refine wpList_load_row rfl 36 (.tmp 5) rfl (w.heap.size + 1) rfl 36 (ordA o) (0, 0) _ HI6.out.st.od Tryd.underlying36 rfl (rordInfo _) ?_))
    refine (rrow_yes o _ HR.out).mono ?_
    rintro e w7 ⟨vr, rfl, hownr, hb7⟩
    have HI7 := Lib.hid (HI6.out.below hb7)
    have HW0 := Lib.hid hownr
    obtain ⟨gr, cr, hvr, _, _⟩ := World.ownsRow.form hownr (by rw [Od.row_len]; decide)
    rw [Od.row_len] at hvr
    subst hvr
    have HW := Lib.hid (show Own w7 w6.heap.size (.slice (some ⟨gr, 0, none⟩) 32 cr) (Od.row o) from HW0.out)
    clear hownr hb7 HI6 HW0
    go_wp2
    go_loopw [17, 18, 19] (L1Rel o (Od.hind m o a b) (Od.fore m o a b) w7) (fun _ _ i _ => 32 - (intOf i).toNat)
    case atStart => exact ⟨0, _, _, rfl, rfl, by omega, rfl, ⟨own_nil _ _, own_nil _ _, fun g h => by simp [Value.ownBlock] at h⟩, Below.refl _ _⟩
    case round =>
      obtain ⟨k, pv, dv, rfl, rfl, hk, rfl, hT2, hB⟩ := hrel
      have HT2 := Lib.hid hT2
      have HB := Lib.hid hB
      have hsz := hB.size
      clear hT2 hB
      have hlp := placesTo_len o (Od.hind m o a b ||| Od.fore m o a b) k
      have hls := standTo_len o (Od.hind m o a b) k
      by_cases hlt : k < 32
      · have ha32 := (Od.at_spec HR.out hlt).1
        have hr := (HW.out.below HB.out (Nat.le_refl _)).at_ (k := k) (by rw [Od.row_len]; exact hlt)
        obtain ⟨gr', hA, hcr⟩ := hr
        injection hA with hA
        injection hA with hA
        subst hA
        rw [row_at o] at hcr
        cases hbH : (Od.hind m o a b).testBit (Od.at_ o k)
        · have HH := Lib.hid hbH
          have HSn := Lib.hid (standTo_no hlt hbH)
          cases hbF : (Od.fore m o a b).testBit (Od.at_ o k)
          · have HFk := Lib.hid hbF
            have HPn := Lib.hid (placesTo_no (or_no hbH hbF))
            clear hbH hbF
            go_wp2_with (first
              | (go_at_call_of 39 (Od.fore m o a b); refine (rhasN_val _ _ _ _ hfl (by omega) HFk.out).mono ?_; rintro e w' ⟨rfl, rfl⟩)
              | (go_at_call 39; refine (rhasN_val _ _ _ _ hhl (by omega) HH.out).mono ?_; rintro e w' ⟨rfl, rfl⟩))
            refine ⟨⟨k + 1, _, _, rfl, rfl, by omega, by go_num, ?_, HB.out⟩, by simp [intOf]; omega⟩
            rw [HSn.out, ← HPn.out]; exact HT2.out
          · have HFk := Lib.hid hbF
            have HPy := Lib.hid (placesTo_yes (or_yes2 (H := Od.hind m o a b) hbF))
            clear hbH hbF
            go_wp2_with (first
              | (go_at_call_of 39 (Od.fore m o a b); refine (rhasN_val _ _ _ _ hfl (by omega) HFk.out).mono ?_; rintro e w' ⟨rfl, rfl⟩)
              | (go_at_call 39; refine (rhasN_val _ _ _ _ hhl (by omega) HH.out).mono ?_; rintro e w' ⟨rfl, rfl⟩)
              | (at_builtin; refine wpList_append_lies _ rfl _ _ 48 rfl w7.heap.size 3 i0 (.int .i64 0) 1 8 Tryd.underlying48 hi hz0 hz1 hz2 rfl (by decide) _ _ _ rfl (World.ownsRow.alloc HT2.out.one _) ⟨wr.heap.size, 0, none⟩ 1 1 [.int .i64 (k : Nat)] rfl rfl ?c1 ?c2 (by decide) ?c3 ?c4 ?c5 _ rfl ?_))
            case c1 =>
              intro j u hj
              match j, hj with
              | 0, hj => simp at hj; subst hj; simp [Addr.add]
            case c2 => intro u hu; simp at hu; subst hu; rfl
            case c3 => unfold maxLen; omega
            case c4 => omega
            case c5 => simp; omega
            intro ga ca wa hown hgrow hat _
            have HTa := Lib.hid (HT2.out.push (x := k) rfl hgrow (by exact hown) (hat.imp id fun e => by rw [e]; simp))
            have HBa := Lib.hid ((HB.out.alloc HB.out.size _).grown hgrow (by have := HB.out.size; simp; omega) (fun k hk => (World.ownsRow.lt HT2.out.one k hk).1))
            have hszwa := HBa.out.size
            clear hown hgrow hat
            go_wp2
            refine ⟨⟨k + 1, _, _, rfl, rfl, by omega, by go_num, ?_, HBa.out⟩, by simp [intOf]; omega⟩
            rw [HSn.out, ← HPy.out]; exact HTa.out
        · have HH := Lib.hid hbH
          have HSy := Lib.hid (standTo_yes hlt hbH)
          have HPy := Lib.hid (placesTo_yes (or_yes1 (F := Od.fore m o a b) hbH))
          clear hbH
          go_wp2_with (first
            | (go_at_call 39; refine (rhasN_val _ _ _ _ hhl (by omega) HH.out).mono ?_; rintro e w' ⟨rfl, rfl⟩)
            | (at_builtin; refine wpList_append_lies _ rfl _ _ 48 rfl w7.heap.size 3 i0 (.int .i64 0) 1 8 Tryd.underlying48 hi hz0 hz1 hz2 rfl (by decide) _ _ _ rfl (World.ownsRow.alloc HT2.out.two _) ⟨wr.heap.size, 0, none⟩ 1 1 [.int .i64 (Od.at_ o k : Nat)] rfl rfl ?c1 ?c2 (by decide) ?c3 ?c4 ?c5 _ rfl ?_))
          case c1 =>
            intro j u hj
            match j, hj with
            | 0, hj => simp at hj; subst hj; simp [Addr.add]
          case c2 => intro u hu; simp at hu; subst hu; rfl
          case c3 => unfold maxLen; omega
          case c4 => omega
          case c5 => simp; omega
          intro ga ca wa hown hgrow hat _
          have HTa := Lib.hid ((HT2.out.symm.push (x := Od.at_ o k) rfl hgrow (by exact hown) (hat.imp id fun e => by rw [e]; simp)).symm)
          have HBa := Lib.hid ((HB.out.alloc HB.out.size _).grown hgrow (by have := HB.out.size; simp; omega) (fun k hk => (World.ownsRow.lt HT2.out.symm.one k hk).1))
          have hszwa := HBa.out.size
          clear hown hgrow hat
          have hs := (HW.out.below HBa.out (Nat.le_refl _)).at_ (k := k) (by rw [Od.row_len]; exact hlt)
          obtain ⟨gr', hA, hcs⟩ := hs
          injection hA with hA
          injection hA with hA
          subst hA
          rw [row_at o] at hcs
          go_wp2_with (first
            | (go_at_call 39; refine (rhasN_val _ _ _ _ hhl (by omega) HH.out).mono ?_; rintro e w' ⟨rfl, rfl⟩)
            | (at_builtin; refine wpList_append_lies _ rfl _ _ 48 rfl w7.heap.size 3 i0 (.int .i64 0) 1 8 Tryd.underlying48 hi hz0 hz1 hz2 rfl (by decide) _ _ _ rfl (World.ownsRow.alloc HTa.out.one _) ⟨wa.heap.size, 0, none⟩ 1 1 [.int .i64 (k : Nat)] rfl rfl ?c1 ?c2 (by decide) ?c3 ?c4 ?c5 _ rfl ?_))
          case c1 =>
            intro j u hj
            match j, hj with
            | 0, hj => simp at hj; subst hj; simp [Addr.add]
          case c2 => intro u hu; simp at hu; subst hu; rfl
          case c3 => unfold maxLen; omega
          case c4 => omega
          case c5 => simp; omega
          intro ga ca wb hown hgrow hat _
          have HTb := Lib.hid (HTa.out.push (x := k) rfl hgrow (by exact hown) (hat.imp id fun e => by rw [e]; simp))
          have HBb := Lib.hid ((HBa.out.alloc HBa.out.size _).grown hgrow (by have := HBa.out.size; simp; omega) (fun k hk => (World.ownsRow.lt HTa.out.one k hk).1))
          have hszwb := HBb.out.size
          clear hown hgrow hat
          go_wp2
          refine ⟨⟨k + 1, _, _, rfl, rfl, by omega, by go_num, ?_, HBb.out⟩, by simp [intOf]; omega⟩
          rw [HSy.out, ← HPy.out]; exact HTb.out
      · obtain rfl : k = 32 := by omega
        have HT3 := Lib.hid (show Two wr w7.heap.size pv dv (Od.placesOf o (Od.hind m o a b ||| Od.fore m o a b)) (Od.standing o (Od.hind m o a b) ++ standTo o (Od.fore m o a b) 0) from by
          have h := HT2.out
          rw [standTo_all] at h
          have e : Od.standing o (Od.hind m o a b) ++ standTo o (Od.fore m o a b) 0 = Od.standing o (Od.hind m o a b) := by simp [standTo]
          rw [e]; exact h)
        clear HT2 hls hlp
        rw [show ((32 : Nat) : Int) = (32 : Int) from rfl]
        go_wp2
        go_loopw [18, 20] (L2Rel o (Od.hind m o a b) (Od.fore m o a b) w7 pv) (fun _ i _ => 32 - (intOf i).toNat)
        case atStart => exact ⟨0, _, rfl, by omega, rfl, HT3.out, HB.out⟩
        case round =>
          clear HT3 HB
          obtain ⟨k, dv, rfl, hk, rfl, hT2, hB⟩ := hrel
          have HT2 := Lib.hid hT2
          have HB := Lib.hid hB
          have hsz := hB.size
          clear hT2 hB
          have hlh := Od.standing_len o (Od.hind m o a b)
          have hls := standTo_len o (Od.fore m o a b) k
          have hll : (Od.standing o (Od.hind m o a b) ++ standTo o (Od.fore m o a b) k).length ≤ 64 := by rw [List.length_append]; omega
          by_cases hlt : k < 32
          · have ha32 := (Od.at_spec HR.out hlt).1
            have hr := (HW.out.below HB.out (Nat.le_refl _)).at_ (k := k) (by rw [Od.row_len]; exact hlt)
            obtain ⟨gr', hA, hcr⟩ := hr
            injection hA with hA
            injection hA with hA
            subst hA
            rw [row_at o] at hcr
            cases hbF : (Od.fore m o a b).testBit (Od.at_ o k)
            · have HFk := Lib.hid hbF
              have HSn := Lib.hid (standTo_no hlt hbF)
              clear hbF
              go_wp2_with (go_at_call 39; refine (rhasN_val _ _ _ _ hfl (by omega) HFk.out).mono ?_; rintro e w' ⟨rfl, rfl⟩)
              refine ⟨⟨k + 1, _, rfl, by omega, by go_num, ?_, HB.out⟩, by simp [intOf]; omega⟩
              rw [HSn.out]; exact HT2.out
            · have HFk := Lib.hid hbF
              have HSy := Lib.hid (standTo_yes hlt hbF)
              clear hbF
              generalize hG : Od.standing o (Od.hind m o a b) ++ standTo o (Od.fore m o a b) k = G at *
              have HG := Lib.hid hG
              clear hG
              go_wp2_with (first
                | (go_at_call 39; refine (rhasN_val _ _ _ _ hfl (by omega) HFk.out).mono ?_; rintro e w' ⟨rfl, rfl⟩)
                | (at_builtin; refine wpList_append_lies _ rfl _ _ 48 rfl w7.heap.size 3 i0 (.int .i64 0) 1 8 Tryd.underlying48 hi hz0 hz1 hz2 rfl (by decide) _ _ _ rfl (World.ownsRow.alloc HT2.out.two _) ⟨wr.heap.size, 0, none⟩ 1 1 [.int .i64 (Od.at_ o k : Nat)] rfl rfl ?c1 ?c2 (by decide) ?c3 ?c4 ?c5 _ rfl ?_))
              case c1 =>
                intro j u hj
                match j, hj with
                | 0, hj => simp at hj; subst hj; simp [Addr.add]
              case c2 => intro u hu; simp at hu; subst hu; rfl
              case c3 => unfold maxLen; omega
              case c4 => omega
              case c5 => simp; omega
              intro ga ca wa hown hgrow hat _
              have HTa := Lib.hid ((HT2.out.symm.push (x := Od.at_ o k) rfl hgrow (by exact hown) (hat.imp id fun e => by rw [e]; simp)).symm)
              have HBa := Lib.hid ((HB.out.alloc HB.out.size _).grown hgrow (by have := HB.out.size; simp; omega) (fun k hk => (World.ownsRow.lt HT2.out.symm.one k hk).1))
              have hszwa := HBa.out.size
              clear hown hgrow hat
              go_wp2
              refine ⟨⟨k + 1, _, rfl, by omega, by go_num, ?_, HBa.out⟩, by simp [intOf]; omega⟩
              rw [HSy.out, ← List.append_assoc, HG.out]; exact HTa.out
          · obtain rfl : k = 32 := by omega
            have HT4 := Lib.hid (show Two wr w7.heap.size pv dv (Od.placesOf o (Od.hind m o a b ||| Od.fore m o a b)) (Od.standing o (Od.hind m o a b) ++ Od.standing o (Od.fore m o a b)) from by
              have h := HT2.out
              rw [standTo_all] at h
              exact h)
            clear HT2 hls hll
            rw [show ((32 : Nat) : Int) = (32 : Int) from rfl]
            have hbase : w.heap.size + 1 < w7.heap.size := HI7.out.st.od.lt
            have HI9 := Lib.hid (HI7.out.below HB.out)
            obtain ⟨Ap, cp, hvp, hcp1, hcp2⟩ := HT4.out.one.shape
            obtain ⟨Ad, cd, hvd, hcd1, hcd2⟩ := HT4.out.two.shape
            obtain ⟨nL, hNL⟩ : ∃ nL, (Od.standing o (Od.hind m o a b) ++ Od.standing o (Od.fore m o a b)).length = nL := ⟨_, rfl⟩
            rw [hNL] at hvd hcd1
            have HP9 := Lib.hid HT4.out.one
            have HD9 := Lib.hid HT4.out.two
            have hlP := Od.both_len HR.out HA.out
            have hPl := Od.places_len o (Od.hind m o a b ||| Od.fore m o a b)
            have HPm := Lib.hid (show ∀ k (h : k < (Od.placesOf o (Od.hind m o a b ||| Od.fore m o a b)).length), (Od.placesOf o (Od.hind m o a b ||| Od.fore m o a b))[k] < 32 from fun k h => (Od.places_mem.1 (List.getElem_mem h)).1)
            have HLm := Lib.hid (show ∀ k (h : k < (Od.standing o (Od.hind m o a b) ++ Od.standing o (Od.fore m o a b)).length), (Od.standing o (Od.hind m o a b) ++ Od.standing o (Od.fore m o a b))[k] < 32 from fun k h => both_lt HR.out h)
            have HRl := Lib.hid (show Od.give o ((Od.standing o (Od.hind m o a b) ++ Od.standing o (Od.fore m o a b)).zip (Od.placesOf o (Od.hind m o a b ||| Od.fore m o a b))) = Od.relay o (Od.hind m o a b) (Od.fore m o a b) from rfl)
            subst hvp
            subst hvd
            generalize Od.standing o (Od.hind m o a b) ++ Od.standing o (Od.fore m o a b) = L at *
            generalize Od.placesOf o (Od.hind m o a b ||| Od.fore m o a b) = P at *
            have HLP := Lib.hid hlP
            have HNL := Lib.hid hNL
            clear hlP hNL HT4
            go_wp2
            go_loopw [21] (L3Rel m (Mm.put m a b) o w1.heap.size w7.heap.size w P L (.slice Ap P.length cp) (.slice Ad nL cd)) (fun i _ => 64 - (intOf i).toNat)
            case atStart => exact ⟨0, by omega, rfl, HP9.out, HD9.out, HI9.out⟩
            case round =>
              obtain ⟨n, hn, rfl, hownP, hownL, hst⟩ := hrel
              have HP2 := Lib.hid hownP
              have HL2 := Lib.hid hownL
              have HS2 := Lib.hid hst
              by_cases hnl : n < P.length
              · have hnL : n < nL := by have := HLP.out; have := HNL.out; omega
                have hnL' : n < L.length := by rw [HNL.out]; exact hnL
                obtain ⟨gd, hA, hcd⟩ := hownL.at_ hnL'
                subst hA
                obtain ⟨gp, hA, hcp⟩ := hownP.at_ hnl
                subst hA
                have hp32 := HPm.out n hnl
                have hx32 := HLm.out n hnL'
                have HGv := Lib.hid (Od.give_step (o := o) (L := L) (P := P) (k := n) (List.getElem?_eq_getElem hnL') (List.getElem?_eq_getElem hnl))
                have HCd := Lib.hid (fun W (h : Own W w7.heap.size (.slice (some ⟨gd, 0, none⟩) nL cd) L) => own_cellR h hnL')
                have HCp := Lib.hid (fun W (h : Own W w7.heap.size (.slice (some ⟨gp, 0, none⟩) P.length cp) P) => own_cellR h hnl)
                generalize L[n] = x at *
                generalize P[n] = p at *
                have hd := hst.st.od.cell x hx32
                have hf := hst.st.od.frozen x
                clear hownL hownP hst hnL' hcd hcp
                go_wp2
                refine wp_region_noPanic ?_
                refine region_start (S := fun W => Own W w7.heap.size (.slice (some ⟨gp, 0, none⟩) P.length cp) P ∧ Own W w7.heap.size (.slice (some ⟨gd, 0, none⟩) nL cd) L) 10 rfl (by kernel_rfl) (⟨HP2.out.below (below_drew _) (Nat.le_refl _), HL2.out.below (below_drew _) (Nat.le_refl _)⟩) (fun hHeld => ?_)
                refine take_at 0 133 (.slice (some ⟨gd, 0, none⟩) nL cd) rfl rfl (by kernel_rfl) (by kernel_rfl) (by kernel_rfl) (fun _ _ _ h => h) (Or.inl ⟨by rfl, by intro W hW; clear hW; go_simp⟩) hHeld ?_
                simp only [put_laws]
                refine take_at 1 134 (.int .i64 (n : Nat)) rfl rfl (by kernel_rfl) (by kernel_rfl) (by kernel_rfl) (fun _ _ _ h => h) (Or.inl ⟨by rfl, by intro W hW; clear hW; go_simp⟩) hHeld ?_
                simp only [put_laws]
                refine take_at 2 135 (.pointer (some ⟨gd, n, none⟩)) rfl rfl (by kernel_rfl) (by kernel_rfl) (by kernel_rfl) (fun _ _ _ h => h) (Or.inl ⟨by rfl, by intro W hW; clear hW; go_simp; try (intro h; omega)⟩) hHeld ?_
                simp only [put_laws]
                refine take_at 3 136 (.int .i64 (x : Nat)) rfl rfl (by kernel_rfl) (by kernel_rfl) (by kernel_rfl) (fun _ _ _ h => h) (Or.inl ⟨by rfl, by intro W hW; have hc := HCd.out W hW.2; clear hW; go_simp⟩) hHeld ?_
                simp only [put_laws]
                refine take_at 4 137 (.slice (some ⟨gp, 0, none⟩) P.length cp) rfl rfl (by kernel_rfl) (by kernel_rfl) (by kernel_rfl) (fun _ _ _ h => h) (Or.inl ⟨by rfl, by intro W hW; clear hW; go_simp⟩) hHeld ?_
                simp only [put_laws]
                refine take_at 5 138 (.int .i64 (n : Nat)) rfl rfl (by kernel_rfl) (by kernel_rfl) (by kernel_rfl) (fun _ _ _ h => h) (Or.inl ⟨by rfl, by intro W hW; clear hW; go_simp⟩) hHeld ?_
                simp only [put_laws]
                refine take_at 6 139 (.pointer (some ⟨gp, n, none⟩)) rfl rfl (by kernel_rfl) (by kernel_rfl) (by kernel_rfl) (fun _ _ _ h => h) (Or.inl ⟨by rfl, by intro W hW; clear hW; go_simp; try (intro h; omega)⟩) hHeld ?_
                simp only [put_laws]
                refine take_at 7 140 (.int .i64 (p : Nat)) rfl rfl (by kernel_rfl) (by kernel_rfl) (by kernel_rfl) (fun _ _ _ h => h) (Or.inl ⟨by rfl, by intro W hW; have hc := HCp.out W hW.1; clear hW; go_simp⟩) hHeld ?_
                simp only [put_laws]
                refine take_at 8 141 (.pointer (some ⟨w.heap.size + 1, x, none⟩)) rfl rfl (by kernel_rfl) (by kernel_rfl) (by kernel_rfl) (fun _ _ _ h => h) (Or.inl ⟨by rfl, by intro W hW; clear hW; go_simp; try (intro h; omega)⟩) hHeld ?_
                simp only [put_laws]
                refine wpAnyH_ready (rs := [9]) (by kernel_rfl) (by simp) ?_
                refine AllReadyH.cons rfl (fun K hK => ?_) AllReadyH.nil
                go_simp
                refine hK.out _ _ ⟨hHeld.1.setCell _ _ hbase, hHeld.2.setCell _ _ hbase⟩ (fun hHeld => ?_)
                clear hK K
                refine wpAnyH_done (by kernel_rfl) ?_ _
                refine NoPanic.normal ?_
                go_wp2
                refine ⟨⟨n + 1, by omega, by go_num, hHeld.1, hHeld.2, ?_⟩, by simp [intOf]; omega⟩
                rw [← HGv.out]
                exact (HS2.out.setOd x p).below (below_drew _)
              · obtain rfl : n = P.length := by omega
                have HE := Lib.hid (show IW 35 36 w m (Od.relay o (Od.hind m o a b) (Od.fore m o a b)) w1.heap.size (Mm.put m a b) wr from by
                  have h := HS2.out
                  rw [List.take_of_length_le (by rw [List.length_zip, HLP.out]; exact Nat.min_le_left _ _), HRl.out] at h
                  exact h)
                clear hownL hownP hst
                go_wp2
                refine wp_region_noPanic ?_
                refine region_start (S := IW 35 36 w m (Od.relay o (Od.hind m o a b) (Od.fore m o a b)) w1.heap.size (Mm.put m a b)) 5 rfl (by kernel_rfl) (HE.out.below (below_drew _)) (fun hHeld => ?_)
                refine take_at 0 142 (.agg (matA (Mm.put m a b))) rfl rfl (by kernel_rfl) (by kernel_rfl) (by kernel_rfl) (fun _ _ _ h => h) (yields_row (by rfl) 35 (.tmp 11) rfl (w1.heap.size) rfl 35 (matA (Mm.put m a b)) (fun W h => h.wi) Tryd.underlying35 (rmatInfo _)) hHeld ?_
                simp only [put_laws]
                refine take_at 1 143 (.agg (ordA (Od.relay o (Od.hind m o a b) (Od.fore m o a b)))) rfl rfl (by kernel_rfl) (by kernel_rfl) (by kernel_rfl) (fun _ _ _ h => h) (yields_row (by rfl) 36 (.tmp 5) rfl (w.heap.size + 1) rfl 36 (ordA (Od.relay o (Od.hind m o a b) (Od.fore m o a b))) (fun W h => h.st.od) Tryd.underlying36 (rordInfo _)) hHeld ?_
                simp only [put_laws]
                refine wpAnyH_ready (rs := [2]) (by kernel_rfl) (by simp) ?_
                refine AllReadyH.cons rfl (fun K hK => ?_) AllReadyH.nil
                obtain ⟨old, hold⟩ := hHeld.st.rg
                refine step_store_row (by rfl) 35 (.tmp 8) (.tmp 142) (by rfl) (w.heap.size + 2) (matA (Mm.put m a b)) (by rfl) (by rfl) 35 _ hold (rmatInfo _) (by rw [matA_size, matA_size]) (matA_one _) ?_
                clear hold
                have hRG := (hHeld.st.setG (n := (Mm.put m a b))).2
                have hHeld := hHeld.setG (k := (Mm.put m a b))
                refine hK.out _ _ hHeld (fun hHeld => ?_)
                clear hK K
                refine wpAnyH_ready (rs := [3]) (by kernel_rfl) (by simp) ?_
                refine AllReadyH.cons rfl (fun K hK => ?_) AllReadyH.nil
                obtain ⟨old, hold⟩ := hHeld.st.ro
                refine step_store_row (by rfl) 36 (.tmp 9) (.tmp 143) (by rfl) (w.heap.size + 3) (ordA (Od.relay o (Od.hind m o a b) (Od.fore m o a b))) (by rfl) (by rfl) 36 _ hold (rordInfo _) (by rw [ordA_size, ordA_size]) (ordA_one _) ?_
                clear hold
                have hRG := hRG.setRow (k := w.heap.size + 3) (ordA (Od.relay o (Od.hind m o a b) (Od.fore m o a b))) (by omega)
                have hRO := (hHeld.st.setO (q := (Od.relay o (Od.hind m o a b) (Od.fore m o a b)))).2
                have hHeld := hHeld.setO (q := (Od.relay o (Od.hind m o a b) (Od.fore m o a b)))
                refine hK.out _ _ hHeld (fun hHeld => ?_)
                clear hK K
                refine take_at 4 10 (.bool true) rfl rfl (by kernel_rfl) (by kernel_rfl) (by kernel_rfl) (fun _ _ _ h => h) (Or.inl ⟨by rfl, by intro W hW; clear hW; go_simp⟩) hHeld ?_
                simp only [put_laws]
                refine wpAnyH_done (by kernel_rfl) ?_ _
                refine NoPanic.normal ?_
                go_wp2
                have hEnd := hHeld.st.bel
                refine bodyPost_ret (results_three rfl _ _ (w.heap.size + 2) (w.heap.size + 3) 35 36 (matA (Mm.put m a b)) (ordA (Od.relay o (Od.hind m o a b) (Od.fore m o a b))) _ _ _ _ (.bool true) rfl rfl rfl hRG hRO Tryd.underlying35 Tryd.underlying36 (rmatInfo _) (rordInfo _)) rfl ⟨rfl, hEnd⟩
/-- what the document's Insert tells is the plain mathematics'. -/
theorem rinsert_any (m : Mm.Gr) (o : Od.O) (a b : Int) (w : World) (hm : Mm.Ok m) (ha : -9223372036854775808 ≤ a ∧ a ≤ 9223372036854775807) (hb : -9223372036854775808 ≤ b ∧ b ≤ 9223372036854775807) (hT : TabAt w) :
    Calls Tryd.prog 55 #[.agg (matA m), .agg (ordA o), .int .i64 a, .int .i64 b] w fun e w' => e = .returned (.tuple #[.agg (matA (Od.insert m o a b).1), .agg (ordA (Od.insert m o a b).2.1), .bool (Od.insert m o a b).2.2]) ∧ Below w.heap.size w w' := by
  refine Od.insert_cases m o a b (fun r => Calls Tryd.prog 55 #[.agg (matA m), .agg (ordA o), .int .i64 a, .int .i64 b] w fun e w' => e = .returned (.tuple #[.agg (matA r.1), .agg (ordA r.2.1), .bool r.2.2]) ∧ Below w.heap.size w w') ?_ ?_ ?_ ?_
  · intro h
    by_cases hM : Od.May a b
    · have hs : ¬ Od.Sorted m o := fun hs => h ⟨hM, hs⟩
      obtain ⟨⟨a0, a1⟩, ⟨b0, b1⟩, hne⟩ := hM
      obtain ⟨x, rfl⟩ := Int.eq_ofNat_of_zero_le a0
      obtain ⟨y, rfl⟩ := Int.eq_ofNat_of_zero_le b0
      exact rinsert_unsorted m o x y w hm (by omega) (by omega) (by omega) hs hT
    · cases hs : Od.sortedB m o
      · exact rinsert_bad_no m o a b w hm ha hb hM hs hT
      · exact rinsert_bad_yes m o a b w hm ha hb hM hs hT
  · rintro x y rfl rfl hx hy hxy hs hlt
    exact rinsert_up m o x y w hm hx hy hxy hs hlt hT
  · rintro x y rfl rfl hx hy hxy hs hlt hf
    exact rinsert_round m o x y w hm hx hy hxy hs hlt hf hT
  · rintro x y rfl rfl hx hy hxy hs hlt hf
    exact rinsert_down m o x y w hm hx hy hxy hs hlt hf hT
end Go.Proofs.YtakoceablbgchaaDoor
