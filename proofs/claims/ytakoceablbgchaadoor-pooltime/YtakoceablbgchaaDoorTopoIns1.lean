/-
  The contract of topo.Insert.
-/
import Derived.Test.YtakoceablbgchaaDoorTopoFrame0
namespace Go.Proofs.YtakoceablbgchaaDoor
open Go.RowKit
attribute [local go_sem ↓] Go.wp_at_zero Go.wp_at_succ
set_option maxHeartbeats 4000000 in
set_option maxRecDepth 100000 in
theorem insert_bad (m : Mm.Gr) (o : Od.O) (a b : Int) (w : World) (ha : -9223372036854775808 ≤ a ∧ a ≤ 9223372036854775807) (hb : -9223372036854775808 ≤ b ∧ b ≤ 9223372036854775807) (h : ¬ Od.May a b) (hT : TabAt w) :
    Calls Tryd.prog 49 #[.agg (matA m), .agg (ordA o), .int .i64 a, .int .i64 b] w fun e w' => e = .returned (.tuple #[.agg (matA m), .agg (ordA o), .bool false]) ∧ Below w.heap.size w w' := by
  have HT := Lib.hid (ist_first 27 29 m o hT)
  have HM := Lib.hid h
  clear h hT
  go_enter Tryd.func49, Tryd.ntmps49
  go_wp2_with (refine wpList_load_row rfl 27 (.tmp 4) rfl w.heap.size rfl 27 (matA m) (0, 0) _ HT.out.gr Tryd.underlying27 rfl (matInfo m) ?_)
  refine (put_not m a b _ ha hb HM.out).mono ?_
  rintro e w1 ⟨rfl, hb1⟩
  have H1 := Lib.hid ((HT.out.below hb1).alloc (.cells (matA m) 27))
  clear hb1 HT
  go_wp2_with (first
    | (refine wpList_store_row rfl 27 (.tmp 11) (.tmp 21) rfl w1.heap.size (matA m) rfl rfl 27 _ (heap_alloc_new _ _) (matInfo _) (by rw [matA_size]; rfl) (matA_one _) ?_; rw [World.setRow_alloc_new]))
  refine wp_region_noPanic ?_
  refine region_start (S := ISt 27 29 w m o) 5 rfl (by kernel_rfl) (H1.out.drew) (fun hHeld => ?_)
  refine take_at 0 31 (.agg (matA m)) rfl rfl (by kernel_rfl) (by kernel_rfl) (by kernel_rfl) (fun _ _ _ h => h) (yields_row (by rfl) 27 (.tmp 4) rfl (w.heap.size) rfl 27 (matA m) (fun W h => h.gr) Tryd.underlying27 (matInfo _)) hHeld ?_
  simp only [put_laws]
  refine take_at 1 32 (.agg (ordA o)) rfl rfl (by kernel_rfl) (by kernel_rfl) (by kernel_rfl) (fun _ _ _ h => h) (yields_row (by rfl) 29 (.tmp 5) rfl (w.heap.size + 1) rfl 29 (ordA o) (fun W h => h.od) Tryd.underlying29 (ordInfo _)) hHeld ?_
  simp only [put_laws]
  refine wpAnyH_ready (rs := [2]) (by kernel_rfl) (by simp) ?_
  refine AllReadyH.cons rfl (fun K hK => ?_) AllReadyH.nil
  obtain ⟨old, hold⟩ := hHeld.rg
  refine step_store_row (by rfl) 27 (.tmp 8) (.tmp 31) (by rfl) (w.heap.size + 2) (matA m) (by rfl) (by rfl) 27 _ hold (matInfo _) (by rw [matA_size, matA_size]) (matA_one _) ?_
  clear hold
  obtain ⟨hHeld, hRG⟩ := hHeld.setG (n := m)
  refine hK.out _ _ hHeld (fun hHeld => ?_)
  clear hK K
  refine wpAnyH_ready (rs := [3]) (by kernel_rfl) (by simp) ?_
  refine AllReadyH.cons rfl (fun K hK => ?_) AllReadyH.nil
  obtain ⟨old, hold⟩ := hHeld.ro
  refine step_store_row (by rfl) 29 (.tmp 9) (.tmp 32) (by rfl) (w.heap.size + 3) (ordA o) (by rfl) (by rfl) 29 _ hold (ordInfo _) (by rw [ordA_size, ordA_size]) (ordA_one _) ?_
  clear hold
  have hRG := hRG.setRow (k := w.heap.size + 3) (ordA o) (by omega)
  obtain ⟨hHeld, hRO⟩ := hHeld.setO (q := o)
  refine hK.out _ _ hHeld (fun hHeld => ?_)
  clear hK K
  refine take_at 4 10 (.bool false) rfl rfl (by kernel_rfl) (by kernel_rfl) (by kernel_rfl) (fun _ _ _ h => h) (Or.inl ⟨by rfl, by intro W hW; clear hW; go_simp⟩) hHeld ?_
  simp only [put_laws]
  refine wpAnyH_done (by kernel_rfl) ?_ _
  refine NoPanic.normal ?_
  go_wp2
  have hEnd := hHeld.bel
  refine bodyPost_ret (results_three rfl _ _ (w.heap.size + 2) (w.heap.size + 3) 27 29 (matA m) (ordA o) _ _ _ _ (.bool false) rfl rfl rfl hRG hRO Tryd.underlying27 Tryd.underlying29 (matInfo _) (ordInfo _)) rfl ⟨rfl, hEnd⟩
/-- beside these the graph with the edge. -/
structure IW (t u : Nat) (w : World) (m : Mm.Gr) (o : Od.O) (g : Nat) (n : Mm.Gr) (W : World) : Prop where
  st : ISt t u w m o W
  wi : MatAt W g n t
  far : w.heap.size + 3 < g
theorem IW.below {t u : Nat} {w W W' : World} {m n : Mm.Gr} {o : Od.O} {g : Nat} (h : IW t u w m o g n W) (hb : Below W.heap.size W W') : IW t u w m o g n W' := ⟨h.st.below hb, h.wi.below hb, h.far⟩
theorem iw_first {t u : Nat} {w W W' : World} {m n : Mm.Gr} {o : Od.O} (h : ISt t u w m o W) (hb : Below W.heap.size W W') : IW t u w m o W'.heap.size n (W'.alloc (.cells (matA n) t)) := by
  have h' := h.below hb
  obtain ⟨x, hx⟩ := h'.ro
  exact ⟨h'.alloc _, matAt_new _ _ _, hx.lt⟩
theorem IW.setG {t u : Nat} {w W : World} {m n k : Mm.Gr} {o : Od.O} {g : Nat} (h : IW t u w m o g n W) : IW t u w m o g n (W.setRow (w.heap.size + 2) (matA k)) := ⟨h.st.setG.1, h.wi.setRow _ (by have := h.far; omega), h.far⟩
theorem IW.setO {t u : Nat} {w W : World} {m n : Mm.Gr} {o q : Od.O} {g : Nat} (h : IW t u w m o g n W) : IW t u w m o g n (W.setRow (w.heap.size + 3) (ordA q)) := ⟨h.st.setO.1, h.wi.setRow _ (by have := h.far; omega), h.far⟩
set_option maxHeartbeats 4000000 in
set_option maxRecDepth 100000 in
theorem insert_unsorted (m : Mm.Gr) (o : Od.O) (a b : Nat) (w : World) (hm : Mm.Ok m) (ho : Od.Ok o) (ha : a < 32) (hb : b < 32) (hab : a ≠ b) (hs : ¬ Od.Sorted m o) (hT : TabAt w) :
    Calls Tryd.prog 49 #[.agg (matA m), .agg (ordA o), .int .i64 (a : Nat), .int .i64 (b : Nat)] w fun e w' => e = .returned (.tuple #[.agg (matA m), .agg (ordA o), .bool false]) ∧ Below w.heap.size w w' := by
  have HSB := Lib.hid (Od.sortedB_no hs)
  have HOk := Lib.hid ho
  clear hs ho
  have HT := Lib.hid (ist_first 27 29 m o hT)
  clear hT
  go_enter Tryd.func49, Tryd.ntmps49
  go_wp2_with (refine wpList_load_row rfl 27 (.tmp 4) rfl w.heap.size rfl 27 (matA m) (0, 0) _ HT.out.gr Tryd.underlying27 rfl (matInfo m) ?_)
  refine (put_yes m a b _ hm ha hb hab).mono ?_
  rintro e w1 ⟨rfl, hb1⟩
  have H1 := Lib.hid (iw_first (n := Mm.put m a b) HT.out hb1)
  clear hb1 HT
  go_wp2_with (first
    | (refine wpList_store_row rfl 27 (.tmp 11) (.tmp 21) rfl w1.heap.size (matA (Mm.put m a b)) rfl rfl 27 _ (heap_alloc_new _ _) (matInfo _) (by rw [matA_size]; rfl) (matA_one _) ?_; rw [World.setRow_alloc_new])
    | (refine wpList_load_want rfl 27 (.tmp 4) rfl w.heap.size rfl 27 (matA m) (0, 0) _ _ H1.out.st.gr Tryd.underlying27 (matInfo _) ?_)
    | (refine wpList_load_want rfl 29 (.tmp 5) rfl (w.heap.size + 1) rfl 29 (ordA o) (0, 0) _ _ H1.out.st.od Tryd.underlying29 (ordInfo _) ?_))
  refine (sorted_val m o false _ hm HOk.out H1.out.st.tab HSB.out).mono ?_
  rintro e w2 ⟨rfl, hb2⟩
  have H2 := Lib.hid (H1.out.below hb2)
  clear hb2 H1
  go_wp2
  refine wp_region_noPanic ?_
  refine region_start (S := ISt 27 29 w m o) 5 rfl (by kernel_rfl) (H2.out.st.drew) (fun hHeld => ?_)
  refine take_at 0 31 (.agg (matA m)) rfl rfl (by kernel_rfl) (by kernel_rfl) (by kernel_rfl) (fun _ _ _ h => h) (yields_row (by rfl) 27 (.tmp 4) rfl (w.heap.size) rfl 27 (matA m) (fun W h => h.gr) Tryd.underlying27 (matInfo _)) hHeld ?_
  simp only [put_laws]
  refine take_at 1 32 (.agg (ordA o)) rfl rfl (by kernel_rfl) (by kernel_rfl) (by kernel_rfl) (fun _ _ _ h => h) (yields_row (by rfl) 29 (.tmp 5) rfl (w.heap.size + 1) rfl 29 (ordA o) (fun W h => h.od) Tryd.underlying29 (ordInfo _)) hHeld ?_
  simp only [put_laws]
  refine wpAnyH_ready (rs := [2]) (by kernel_rfl) (by simp) ?_
  refine AllReadyH.cons rfl (fun K hK => ?_) AllReadyH.nil
  obtain ⟨old, hold⟩ := hHeld.rg
  refine step_store_row (by rfl) 27 (.tmp 8) (.tmp 31) (by rfl) (w.heap.size + 2) (matA m) (by rfl) (by rfl) 27 _ hold (matInfo _) (by rw [matA_size, matA_size]) (matA_one _) ?_
  clear hold
  obtain ⟨hHeld, hRG⟩ := hHeld.setG (n := m)
  refine hK.out _ _ hHeld (fun hHeld => ?_)
  clear hK K
  refine wpAnyH_ready (rs := [3]) (by kernel_rfl) (by simp) ?_
  refine AllReadyH.cons rfl (fun K hK => ?_) AllReadyH.nil
  obtain ⟨old, hold⟩ := hHeld.ro
  refine step_store_row (by rfl) 29 (.tmp 9) (.tmp 32) (by rfl) (w.heap.size + 3) (ordA o) (by rfl) (by rfl) 29 _ hold (ordInfo _) (by rw [ordA_size, ordA_size]) (ordA_one _) ?_
  clear hold
  have hRG := hRG.setRow (k := w.heap.size + 3) (ordA o) (by omega)
  obtain ⟨hHeld, hRO⟩ := hHeld.setO (q := o)
  refine hK.out _ _ hHeld (fun hHeld => ?_)
  clear hK K
  refine take_at 4 10 (.bool false) rfl rfl (by kernel_rfl) (by kernel_rfl) (by kernel_rfl) (fun _ _ _ h => h) (Or.inl ⟨by rfl, by intro W hW; clear hW; go_simp⟩) hHeld ?_
  simp only [put_laws]
  refine wpAnyH_done (by kernel_rfl) ?_ _
  refine NoPanic.normal ?_
  go_wp2
  have hEnd := hHeld.bel
  refine bodyPost_ret (results_three rfl _ _ (w.heap.size + 2) (w.heap.size + 3) 27 29 (matA m) (ordA o) _ _ _ _ (.bool false) rfl rfl rfl hRG hRO Tryd.underlying27 Tryd.underlying29 (matInfo _) (ordInfo _)) rfl ⟨rfl, hEnd⟩
set_option maxHeartbeats 4000000 in
set_option maxRecDepth 100000 in
theorem insert_up_any (m : Mm.Gr) (o : Od.O) (a b : Nat) (w : World) (hm : Mm.Ok m) (ha : a < 32) (hb : b < 32) (hab : a ≠ b) (hs : Od.Sorted m o) (hlt : o a < o b) (hT : TabAt w) :
    Calls Tryd.prog 49 #[.agg (matA m), .agg (ordA o), .int .i64 (a : Nat), .int .i64 (b : Nat)] w fun e w' => e = .returned (.tuple #[.agg (matA (Mm.put m a b)), .agg (ordA o), .bool true]) ∧ Below w.heap.size w w' := by
  have HSB := Lib.hid (Od.sortedB_yes hs)
  have HOk := Lib.hid hs.1.ok
  clear hs
  have HT := Lib.hid (ist_first 27 29 m o hT)
  clear hT
  go_enter Tryd.func49, Tryd.ntmps49
  go_wp2_with (refine wpList_load_row rfl 27 (.tmp 4) rfl w.heap.size rfl 27 (matA m) (0, 0) _ HT.out.gr Tryd.underlying27 rfl (matInfo m) ?_)
  refine (put_yes m a b _ hm ha hb hab).mono ?_
  rintro e w1 ⟨rfl, hb1⟩
  have H1 := Lib.hid (iw_first (n := Mm.put m a b) HT.out hb1)
  clear hb1 HT
  go_wp2_with (first
    | (refine wpList_store_row rfl 27 (.tmp 11) (.tmp 21) rfl w1.heap.size (matA (Mm.put m a b)) rfl rfl 27 _ (heap_alloc_new _ _) (matInfo _) (by rw [matA_size]; rfl) (matA_one _) ?_; rw [World.setRow_alloc_new])
    | (refine wpList_load_want rfl 27 (.tmp 4) rfl w.heap.size rfl 27 (matA m) (0, 0) _ _ H1.out.st.gr Tryd.underlying27 (matInfo _) ?_)
    | (refine wpList_load_want rfl 29 (.tmp 5) rfl (w.heap.size + 1) rfl 29 (ordA o) (0, 0) _ _ H1.out.st.od Tryd.underlying29 (ordInfo _) ?_))
  refine (sorted_val m o true _ hm HOk.out H1.out.st.tab HSB.out).mono ?_
  rintro e w2 ⟨rfl, hb2⟩
  have H2 := Lib.hid (H1.out.below hb2)
  clear hb2 H1
  have hc1 := H2.out.st.od.cell a ha
  have hc2 := H2.out.st.od.cell b hb
  go_wp2
  go_quiet (fail)
  have H3 := Lib.hid (H2.out.below (below_drewN (Below.refl _ _) nq))
  clear H2 hc1 hc2
  go_wp2
  refine wp_region_noPanic ?_
  refine region_start (S := IW 27 29 w m o w1.heap.size (Mm.put m a b)) 5 rfl (by kernel_rfl) (H3.out.below (below_drew _)) (fun hHeld => ?_)
  refine take_at 0 40 (.agg (matA (Mm.put m a b))) rfl rfl (by kernel_rfl) (by kernel_rfl) (by kernel_rfl) (fun _ _ _ h => h) (yields_row (by rfl) 27 (.tmp 11) rfl (w1.heap.size) rfl 27 (matA (Mm.put m a b)) (fun W h => h.wi) Tryd.underlying27 (matInfo _)) hHeld ?_
  simp only [put_laws]
  refine take_at 1 41 (.agg (ordA o)) rfl rfl (by kernel_rfl) (by kernel_rfl) (by kernel_rfl) (fun _ _ _ h => h) (yields_row (by rfl) 29 (.tmp 5) rfl (w.heap.size + 1) rfl 29 (ordA o) (fun W h => h.st.od) Tryd.underlying29 (ordInfo _)) hHeld ?_
  simp only [put_laws]
  have hHeld' := hHeld
  refine wpAnyH_ready (rs := [2]) (by kernel_rfl) (by simp) ?_
  refine AllReadyH.cons rfl (fun K hK => ?_) AllReadyH.nil
  obtain ⟨old, hold⟩ := hHeld.st.rg
  refine step_store_row (by rfl) 27 (.tmp 8) (.tmp 40) (by rfl) (w.heap.size + 2) (matA (Mm.put m a b)) (by rfl) (by rfl) 27 _ hold (matInfo _) (by rw [matA_size, matA_size]) (matA_one _) ?_
  clear hold
  have hRG := (hHeld.st.setG (n := (Mm.put m a b))).2
  have hHeld := hHeld.setG (k := (Mm.put m a b))
  refine hK.out _ _ hHeld (fun hHeld => ?_)
  clear hK K
  refine wpAnyH_ready (rs := [3]) (by kernel_rfl) (by simp) ?_
  refine AllReadyH.cons rfl (fun K hK => ?_) AllReadyH.nil
  obtain ⟨old, hold⟩ := hHeld.st.ro
  refine step_store_row (by rfl) 29 (.tmp 9) (.tmp 41) (by rfl) (w.heap.size + 3) (ordA o) (by rfl) (by rfl) 29 _ hold (ordInfo _) (by rw [ordA_size, ordA_size]) (ordA_one _) ?_
  clear hold
  have hRG := hRG.setRow (k := w.heap.size + 3) (ordA o) (by omega)
  have hRO := (hHeld.st.setO (q := o)).2
  have hHeld := hHeld.setO (q := o)
  refine hK.out _ _ hHeld (fun hHeld => ?_)
  clear hK K
  refine take_at 4 10 (.bool true) rfl rfl (by kernel_rfl) (by kernel_rfl) (by kernel_rfl) (fun _ _ _ h => h) (Or.inl ⟨by rfl, by intro W hW; clear hW; go_simp⟩) hHeld ?_
  simp only [put_laws]
  refine wpAnyH_done (by kernel_rfl) ?_ _
  refine NoPanic.normal ?_
  go_wp2
  have hEnd := hHeld.st.bel
  refine bodyPost_ret (results_three rfl _ _ (w.heap.size + 2) (w.heap.size + 3) 27 29 (matA (Mm.put m a b)) (ordA o) _ _ _ _ (.bool true) rfl rfl rfl hRG hRO Tryd.underlying27 Tryd.underlying29 (matInfo _) (ordInfo _)) rfl ⟨rfl, hEnd⟩
end Go.Proofs.YtakoceablbgchaaDoor
