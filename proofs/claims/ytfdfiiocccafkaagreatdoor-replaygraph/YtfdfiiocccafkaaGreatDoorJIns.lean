/-
  The contract of topo.Insert.
  The contract of topo.Insert where the edge goes down.
-/
import Derived.Test.YtfdfiiocccafkaaGreatDoorJTopo
namespace Go.Proofs.YtfdfiiocccafkaaGreatDoor
open Go.RowKit
attribute [local go_sem ↓] Go.wp_at_zero Go.wp_at_succ
set_option maxHeartbeats 4000000 in
set_option maxRecDepth 100000 in
theorem insert_bad (m : Mm.Gr) (o : Od.O) (a b : Int) (w : World) (ha : -9223372036854775808 ≤ a ∧ a ≤ 9223372036854775807) (hb : -9223372036854775808 ≤ b ∧ b ≤ 9223372036854775807) (h : ¬ Od.May a b) (hT : TabAt w) :
    Calls Tryz.prog 116 #[.agg (matA m), .agg (ordA o), .int .i64 a, .int .i64 b] w fun e w' => e = .returned (.tuple #[.agg (matA m), .agg (ordA o), .bool false]) ∧ Below w.heap.size w w' := by
  have HT := Lib.hid (ist_first 84 85 m o hT)
  have HM := Lib.hid h
  clear h hT
  go_enter Tryz.func116, Tryz.ntmps116
  go_wp2_with (refine wpList_load_row rfl 84 (.tmp 4) rfl w.heap.size rfl 84 (matA m) (0, 0) _ HT.out.gr Tryz.underlying84 rfl (matInfo m) ?_)
  refine (put_not m a b _ ha hb HM.out).mono ?_
  rintro e w1 ⟨rfl, hb1⟩
  have H1 := Lib.hid ((HT.out.below hb1).alloc (.cells (matA m) 84))
  clear hb1 HT
  go_wp2_with (first
    | (refine wpList_store_row rfl 84 (.tmp 11) (.tmp 21) rfl w1.heap.size (matA m) rfl rfl 84 _ (heap_alloc_new _ _) (matInfo _) (by rw [matA_size]; rfl) (matA_one _) ?_; rw [World.setRow_alloc_new]))
  refine wp_region_noPanic ?_
  refine region_start (S := ISt 84 85 w m o) 5 rfl (by kernel_rfl) (H1.out.drew) (fun hHeld => ?_)
  refine take_at 0 31 (.agg (matA m)) rfl rfl (by kernel_rfl) (by kernel_rfl) (by kernel_rfl) (fun _ _ _ h => h) (yields_row (by rfl) 84 (.tmp 4) rfl (w.heap.size) rfl 84 (matA m) (fun W h => h.gr) Tryz.underlying84 (matInfo _)) hHeld ?_
  simp only [put_laws]
  refine take_at 1 32 (.agg (ordA o)) rfl rfl (by kernel_rfl) (by kernel_rfl) (by kernel_rfl) (fun _ _ _ h => h) (yields_row (by rfl) 85 (.tmp 5) rfl (w.heap.size + 1) rfl 85 (ordA o) (fun W h => h.od) Tryz.underlying85 (ordInfo _)) hHeld ?_
  simp only [put_laws]
  refine wpAnyH_ready (rs := [2]) (by kernel_rfl) (by simp) ?_
  refine AllReadyH.cons rfl (fun K hK => ?_) AllReadyH.nil
  obtain ⟨old, hold⟩ := hHeld.rg
  refine step_store_row (by rfl) 84 (.tmp 8) (.tmp 31) (by rfl) (w.heap.size + 2) (matA m) (by rfl) (by rfl) 84 _ hold (matInfo _) (by rw [matA_size, matA_size]) (matA_one _) ?_
  clear hold
  obtain ⟨hHeld, hRG⟩ := hHeld.setG (n := m)
  refine hK.out _ _ hHeld (fun hHeld => ?_)
  clear hK K
  refine wpAnyH_ready (rs := [3]) (by kernel_rfl) (by simp) ?_
  refine AllReadyH.cons rfl (fun K hK => ?_) AllReadyH.nil
  obtain ⟨old, hold⟩ := hHeld.ro
  refine step_store_row (by rfl) 85 (.tmp 9) (.tmp 32) (by rfl) (w.heap.size + 3) (ordA o) (by rfl) (by rfl) 85 _ hold (ordInfo _) (by rw [ordA_size, ordA_size]) (ordA_one _) ?_
  clear hold
  have hRG := hRG.setRow (k := w.heap.size + 3) (ordA o) (by omega)
  obtain ⟨hHeld, hRO⟩ := hHeld.setO (q := o)
  refine hK.out _ _ hHeld (fun hHeld => ?_)
  clear hK K
  refine take_at 4 10 (.bool false) rfl rfl (by kernel_rfl) (by kernel_rfl) (by kernel_rfl) (fun _ _ _ h => h) (Or.inl ⟨by rfl, by intro W hW; clear hW; go_simp⟩) hHeld ?_
  simp only [put_laws]
  refine wpAnyH_done (by kernel_rfl) ?_ _
  refine NoPanic.normal ?_
  go_wp2
  have hEnd := hHeld.bel
  refine bodyPost_ret (results_three rfl _ _ (w.heap.size + 2) (w.heap.size + 3) 84 85 (matA m) (ordA o) _ _ _ _ (.bool false) rfl rfl rfl hRG hRO Tryz.underlying84 Tryz.underlying85 (matInfo _) (ordInfo _)) rfl ⟨rfl, hEnd⟩
/-- beside these the graph with the edge. -/
structure IW (t u : Nat) (w : World) (m : Mm.Gr) (o : Od.O) (g : Nat) (n : Mm.Gr) (W : World) : Prop where
  st : ISt t u w m o W
  wi : MatAt W g n t
  far : w.heap.size + 3 < g
theorem IW.below {t u : Nat} {w W W' : World} {m n : Mm.Gr} {o : Od.O} {g : Nat} (h : IW t u w m o g n W) (hb : Below W.heap.size W W') : IW t u w m o g n W' := ⟨h.st.below hb, h.wi.below hb, h.far⟩
theorem iw_first {t u : Nat} {w W W' : World} {m n : Mm.Gr} {o : Od.O} (h : ISt t u w m o W) (hb : Below W.heap.size W W') : IW t u w m o W'.heap.size n (W'.alloc (.cells (matA n) t)) := by
  have h' := h.below hb
  obtain ⟨x, hx⟩ := h'.ro
  exact ⟨h'.alloc _, matAt_new _ _ _, hx.lt⟩
theorem IW.setG {t u : Nat} {w W : World} {m n k : Mm.Gr} {o : Od.O} {g : Nat} (h : IW t u w m o g n W) : IW t u w m o g n (W.setRow (w.heap.size + 2) (matA k)) := ⟨h.st.setG.1, h.wi.setRow _ (by have := h.far; omega), h.far⟩
theorem IW.setO {t u : Nat} {w W : World} {m n : Mm.Gr} {o q : Od.O} {g : Nat} (h : IW t u w m o g n W) : IW t u w m o g n (W.setRow (w.heap.size + 3) (ordA q)) := ⟨h.st.setO.1, h.wi.setRow _ (by have := h.far; omega), h.far⟩
set_option maxHeartbeats 4000000 in
set_option maxRecDepth 100000 in
theorem insert_unsorted (m : Mm.Gr) (o : Od.O) (a b : Nat) (w : World) (hm : Mm.Ok m) (ho : Od.Ok o) (ha : a < 32) (hb : b < 32) (hab : a ≠ b) (hs : ¬ Od.Sorted m o) (hT : TabAt w) :
    Calls Tryz.prog 116 #[.agg (matA m), .agg (ordA o), .int .i64 (a : Nat), .int .i64 (b : Nat)] w fun e w' => e = .returned (.tuple #[.agg (matA m), .agg (ordA o), .bool false]) ∧ Below w.heap.size w w' := by
  have HSB := Lib.hid (Od.sortedB_no hs)
  have HOk := Lib.hid ho
  clear hs ho
  have HT := Lib.hid (ist_first 84 85 m o hT)
  clear hT
  go_enter Tryz.func116, Tryz.ntmps116
  go_wp2_with (refine wpList_load_row rfl 84 (.tmp 4) rfl w.heap.size rfl 84 (matA m) (0, 0) _ HT.out.gr Tryz.underlying84 rfl (matInfo m) ?_)
  refine (put_yes m a b _ hm ha hb hab).mono ?_
  rintro e w1 ⟨rfl, hb1⟩
  have H1 := Lib.hid (iw_first (n := Mm.put m a b) HT.out hb1)
  clear hb1 HT
  go_wp2_with (first
    | (refine wpList_store_row rfl 84 (.tmp 11) (.tmp 21) rfl w1.heap.size (matA (Mm.put m a b)) rfl rfl 84 _ (heap_alloc_new _ _) (matInfo _) (by rw [matA_size]; rfl) (matA_one _) ?_; rw [World.setRow_alloc_new])
    | (refine wpList_load_want rfl 84 (.tmp 4) rfl w.heap.size rfl 84 (matA m) (0, 0) _ _ H1.out.st.gr Tryz.underlying84 (matInfo _) ?_)
    | (refine wpList_load_want rfl 85 (.tmp 5) rfl (w.heap.size + 1) rfl 85 (ordA o) (0, 0) _ _ H1.out.st.od Tryz.underlying85 (ordInfo _) ?_))
  refine (sorted_val m o false _ hm HOk.out H1.out.st.tab HSB.out).mono ?_
  rintro e w2 ⟨rfl, hb2⟩
  have H2 := Lib.hid (H1.out.below hb2)
  clear hb2 H1
  go_wp2
  refine wp_region_noPanic ?_
  refine region_start (S := ISt 84 85 w m o) 5 rfl (by kernel_rfl) (H2.out.st.drew) (fun hHeld => ?_)
  refine take_at 0 31 (.agg (matA m)) rfl rfl (by kernel_rfl) (by kernel_rfl) (by kernel_rfl) (fun _ _ _ h => h) (yields_row (by rfl) 84 (.tmp 4) rfl (w.heap.size) rfl 84 (matA m) (fun W h => h.gr) Tryz.underlying84 (matInfo _)) hHeld ?_
  simp only [put_laws]
  refine take_at 1 32 (.agg (ordA o)) rfl rfl (by kernel_rfl) (by kernel_rfl) (by kernel_rfl) (fun _ _ _ h => h) (yields_row (by rfl) 85 (.tmp 5) rfl (w.heap.size + 1) rfl 85 (ordA o) (fun W h => h.od) Tryz.underlying85 (ordInfo _)) hHeld ?_
  simp only [put_laws]
  refine wpAnyH_ready (rs := [2]) (by kernel_rfl) (by simp) ?_
  refine AllReadyH.cons rfl (fun K hK => ?_) AllReadyH.nil
  obtain ⟨old, hold⟩ := hHeld.rg
  refine step_store_row (by rfl) 84 (.tmp 8) (.tmp 31) (by rfl) (w.heap.size + 2) (matA m) (by rfl) (by rfl) 84 _ hold (matInfo _) (by rw [matA_size, matA_size]) (matA_one _) ?_
  clear hold
  obtain ⟨hHeld, hRG⟩ := hHeld.setG (n := m)
  refine hK.out _ _ hHeld (fun hHeld => ?_)
  clear hK K
  refine wpAnyH_ready (rs := [3]) (by kernel_rfl) (by simp) ?_
  refine AllReadyH.cons rfl (fun K hK => ?_) AllReadyH.nil
  obtain ⟨old, hold⟩ := hHeld.ro
  refine step_store_row (by rfl) 85 (.tmp 9) (.tmp 32) (by rfl) (w.heap.size + 3) (ordA o) (by rfl) (by rfl) 85 _ hold (ordInfo _) (by rw [ordA_size, ordA_size]) (ordA_one _) ?_
  clear hold
  have hRG := hRG.setRow (k := w.heap.size + 3) (ordA o) (by omega)
  obtain ⟨hHeld, hRO⟩ := hHeld.setO (q := o)
  refine hK.out _ _ hHeld (fun hHeld => ?_)
  clear hK K
  refine take_at 4 10 (.bool false) rfl rfl (by kernel_rfl) (by kernel_rfl) (by kernel_rfl) (fun _ _ _ h => h) (Or.inl ⟨by rfl, by intro W hW; clear hW; go_simp⟩) hHeld ?_
  simp only [put_laws]
  refine wpAnyH_done (by kernel_rfl) ?_ _
  refine NoPanic.normal ?_
  go_wp2
  have hEnd := hHeld.bel
  refine bodyPost_ret (results_three rfl _ _ (w.heap.size + 2) (w.heap.size + 3) 84 85 (matA m) (ordA o) _ _ _ _ (.bool false) rfl rfl rfl hRG hRO Tryz.underlying84 Tryz.underlying85 (matInfo _) (ordInfo _)) rfl ⟨rfl, hEnd⟩
set_option maxHeartbeats 4000000 in
set_option maxRecDepth 100000 in
theorem insert_up_any (m : Mm.Gr) (o : Od.O) (a b : Nat) (w : World) (hm : Mm.Ok m) (ha : a < 32) (hb : b < 32) (hab : a ≠ b) (hs : Od.Sorted m o) (hlt : o a < o b) (hT : TabAt w) :
    Calls Tryz.prog 116 #[.agg (matA m), .agg (ordA o), .int .i64 (a : Nat), .int .i64 (b : Nat)] w fun e w' => e = .returned (.tuple #[.agg (matA (Mm.put m a b)), .agg (ordA o), .bool true]) ∧ Below w.heap.size w w' := by
  have HSB := Lib.hid (Od.sortedB_yes hs)
  have HOk := Lib.hid hs.1.ok
  clear hs
  have HT := Lib.hid (ist_first 84 85 m o hT)
  clear hT
  go_enter Tryz.func116, Tryz.ntmps116
  go_wp2_with (refine wpList_load_row rfl 84 (.tmp 4) rfl w.heap.size rfl 84 (matA m) (0, 0) _ HT.out.gr Tryz.underlying84 rfl (matInfo m) ?_)
  refine (put_yes m a b _ hm ha hb hab).mono ?_
  rintro e w1 ⟨rfl, hb1⟩
  have H1 := Lib.hid (iw_first (n := Mm.put m a b) HT.out hb1)
  clear hb1 HT
  go_wp2_with (first
    | (refine wpList_store_row rfl 84 (.tmp 11) (.tmp 21) rfl w1.heap.size (matA (Mm.put m a b)) rfl rfl 84 _ (heap_alloc_new _ _) (matInfo _) (by rw [matA_size]; rfl) (matA_one _) ?_; rw [World.setRow_alloc_new])
    | (refine wpList_load_want rfl 84 (.tmp 4) rfl w.heap.size rfl 84 (matA m) (0, 0) _ _ H1.out.st.gr Tryz.underlying84 (matInfo _) ?_)
    | (refine wpList_load_want rfl 85 (.tmp 5) rfl (w.heap.size + 1) rfl 85 (ordA o) (0, 0) _ _ H1.out.st.od Tryz.underlying85 (ordInfo _) ?_))
  refine (sorted_val m o true _ hm HOk.out H1.out.st.tab HSB.out).mono ?_
  rintro e w2 ⟨rfl, hb2⟩
  have H2 := Lib.hid (H1.out.below hb2)
  clear hb2 H1
  have hc1 := H2.out.st.od.cell a ha
  have hc2 := H2.out.st.od.cell b hb
  go_wp2
  go_quiet (fail)
  have H3 := Lib.hid (H2.out.below (below_drewN (Below.refl _ _) nq))
  clear H2 hc1 hc2
  go_wp2
  refine wp_region_noPanic ?_
  refine region_start (S := IW 84 85 w m o w1.heap.size (Mm.put m a b)) 5 rfl (by kernel_rfl) (H3.out.below (below_drew _)) (fun hHeld => ?_)
  refine take_at 0 40 (.agg (matA (Mm.put m a b))) rfl rfl (by kernel_rfl) (by kernel_rfl) (by kernel_rfl) (fun _ _ _ h => h) (yields_row (by rfl) 84 (.tmp 11) rfl (w1.heap.size) rfl 84 (matA (Mm.put m a b)) (fun W h => h.wi) Tryz.underlying84 (matInfo _)) hHeld ?_
  simp only [put_laws]
  refine take_at 1 41 (.agg (ordA o)) rfl rfl (by kernel_rfl) (by kernel_rfl) (by kernel_rfl) (fun _ _ _ h => h) (yields_row (by rfl) 85 (.tmp 5) rfl (w.heap.size + 1) rfl 85 (ordA o) (fun W h => h.st.od) Tryz.underlying85 (ordInfo _)) hHeld ?_
  simp only [put_laws]
  have hHeld' := hHeld
  refine wpAnyH_ready (rs := [2]) (by kernel_rfl) (by simp) ?_
  refine AllReadyH.cons rfl (fun K hK => ?_) AllReadyH.nil
  obtain ⟨old, hold⟩ := hHeld.st.rg
  refine step_store_row (by rfl) 84 (.tmp 8) (.tmp 40) (by rfl) (w.heap.size + 2) (matA (Mm.put m a b)) (by rfl) (by rfl) 84 _ hold (matInfo _) (by rw [matA_size, matA_size]) (matA_one _) ?_
  clear hold
  have hRG := (hHeld.st.setG (n := (Mm.put m a b))).2
  have hHeld := hHeld.setG (k := (Mm.put m a b))
  refine hK.out _ _ hHeld (fun hHeld => ?_)
  clear hK K
  refine wpAnyH_ready (rs := [3]) (by kernel_rfl) (by simp) ?_
  refine AllReadyH.cons rfl (fun K hK => ?_) AllReadyH.nil
  obtain ⟨old, hold⟩ := hHeld.st.ro
  refine step_store_row (by rfl) 85 (.tmp 9) (.tmp 41) (by rfl) (w.heap.size + 3) (ordA o) (by rfl) (by rfl) 85 _ hold (ordInfo _) (by rw [ordA_size, ordA_size]) (ordA_one _) ?_
  clear hold
  have hRG := hRG.setRow (k := w.heap.size + 3) (ordA o) (by omega)
  have hRO := (hHeld.st.setO (q := o)).2
  have hHeld := hHeld.setO (q := o)
  refine hK.out _ _ hHeld (fun hHeld => ?_)
  clear hK K
  refine take_at 4 10 (.bool true) rfl rfl (by kernel_rfl) (by kernel_rfl) (by kernel_rfl) (fun _ _ _ h => h) (Or.inl ⟨by rfl, by intro W hW; clear hW; go_simp⟩) hHeld ?_
  simp only [put_laws]
  refine wpAnyH_done (by kernel_rfl) ?_ _
  refine NoPanic.normal ?_
  go_wp2
  have hEnd := hHeld.st.bel
  refine bodyPost_ret (results_three rfl _ _ (w.heap.size + 2) (w.heap.size + 3) 84 85 (matA (Mm.put m a b)) (ordA o) _ _ _ _ (.bool true) rfl rfl rfl hRG hRO Tryz.underlying84 Tryz.underlying85 (matInfo _) (ordInfo _)) rfl ⟨rfl, hEnd⟩
end Go.Proofs.YtfdfiiocccafkaaGreatDoor
namespace Go.Proofs.YtfdfiiocccafkaaGreatDoor
open Go.RowKit
attribute [local go_sem ↓] Go.wp_at_zero Go.wp_at_succ
theorem new_kept {W W' : World} (x : Value) (t : Nat) (hb : Below (W.alloc (.cells #[x] t)).heap.size (W.alloc (.cells #[x] t)) W') : W'.heap[W.heap.size]? = some (.cells #[x] t (0, 0)) := (hb.block _ (by simp)).trans (heap_alloc_new _ _)
theorem cell_row0 {W : World} {g t : Nat} {x : Value} (h : W.heap[g]? = some (.cells #[x] t (0, 0))) : W.cell? ⟨g, 0, none⟩ = some x := by rw [cell_of_row _ _ _ _ _ _ h]; rfl
theorem heap_set0 {W : World} {g t : Nat} {x y : Value} (h : W.heap[g]? = some (.cells #[x] t (0, 0))) : (W.setCell ⟨g, 0, none⟩ y).cell? ⟨g, 0, none⟩ = some y := by rw [cell_of_row _ _ _ _ _ _ (heap_set h)]; rfl
set_option maxHeartbeats 4000000 in
set_option maxRecDepth 100000 in
theorem insert_round_any (m : Mm.Gr) (o : Od.O) (a b : Nat) (w : World) (hm : Mm.Ok m) (ha : a < 32) (hb : b < 32) (hab : a ≠ b) (hs : Od.Sorted m o) (hlt : o b ≤ o a) (hf : (Od.fore m o a b).testBit a = true) (hT : TabAt w) :
    Calls Tryz.prog 116 #[.agg (matA m), .agg (ordA o), .int .i64 (a : Nat), .int .i64 (b : Nat)] w fun e w' => e = .returned (.tuple #[.agg (matA m), .agg (ordA o), .bool false]) ∧ Below w.heap.size w w' := by
  have HSB := Lib.hid (Od.sortedB_yes hs)
  have HOk := Lib.hid hs.1.ok
  have HF := Lib.hid hf
  have HLF := Lib.hid (Od.least_fore (m := m) hb hlt)
  have hfl : Od.fore m o a b < 18446744073709551616 := Nat.lt_trans (Od.fore_lt hb) (by decide)
  clear hs hf
  have HT := Lib.hid (ist_first 84 85 m o hT)
  clear hT
  go_enter Tryz.func116, Tryz.ntmps116
  go_wp2_with (refine wpList_load_row rfl 84 (.tmp 4) rfl w.heap.size rfl 84 (matA m) (0, 0) _ HT.out.gr Tryz.underlying84 rfl (matInfo m) ?_)
  refine (put_yes m a b _ hm ha hb hab).mono ?_
  rintro e w1 ⟨rfl, hb1⟩
  have H1 := Lib.hid (iw_first (n := Mm.put m a b) HT.out hb1)
  clear hb1 HT
  go_wp2_with (first
    | (refine wpList_store_row rfl 84 (.tmp 11) (.tmp 21) rfl w1.heap.size (matA (Mm.put m a b)) rfl rfl 84 _ (heap_alloc_new _ _) (matInfo _) (by rw [matA_size]; rfl) (matA_one _) ?_; rw [World.setRow_alloc_new])
    | (refine wpList_load_want rfl 84 (.tmp 4) rfl w.heap.size rfl 84 (matA m) (0, 0) _ _ H1.out.st.gr Tryz.underlying84 (matInfo _) ?_)
    | (refine wpList_load_want rfl 85 (.tmp 5) rfl (w.heap.size + 1) rfl 85 (ordA o) (0, 0) _ _ H1.out.st.od Tryz.underlying85 (ordInfo _) ?_))
  refine (sorted_val m o true _ hm HOk.out H1.out.st.tab HSB.out).mono ?_
  rintro e w2 ⟨rfl, hb2⟩
  have H2 := Lib.hid (H1.out.below hb2)
  clear hb2 H1
  have hc1 := H2.out.st.od.cell a ha
  have hc2 := H2.out.st.od.cell b hb
  go_wp2
  go_quiet (fail)
  have H3 := Lib.hid (H2.out.below (below_drewN (Below.refl _ _) nq))
  clear H2 hc1 hc2
  go_wp2
  refine wp_region_noPanic ?_
  refine region_start (S := Below (w2.drewN nq).heap.size (w2.drewN nq)) 10 rfl (by kernel_rfl) (below_drew _) (fun hHeld => ?_)
  refine take_at 0 42 (.agg (ordA o)) rfl rfl (by kernel_rfl) (by kernel_rfl) (by kernel_rfl) (fun _ _ _ h => h) (yields_row (by rfl) 85 (.tmp 5) rfl (w.heap.size + 1) rfl 85 (ordA o) (fun W h => (H3.out.below h).st.od) Tryz.underlying85 (ordInfo _)) hHeld ?_
  simp only [put_laws]
  refine take_at 1 43 (.int .i64 (b : Nat)) rfl rfl (by kernel_rfl) (by kernel_rfl) (by kernel_rfl) (fun _ _ _ h => h) (Or.inl ⟨by rfl, by intro W hW; clear hW; go_simp⟩) hHeld ?_
  simp only [put_laws]
  refine take_at 2 44 (.pointer (some ⟨w.heap.size + 1, b, none⟩)) rfl rfl (by kernel_rfl) (by kernel_rfl) (by kernel_rfl) (fun _ _ _ h => h) (Or.inl ⟨by rfl, by intro W hW; clear hW; go_simp; intro h; omega⟩) hHeld ?_
  simp only [put_laws]
  refine take_at 3 45 (.int .i64 (o b)) rfl rfl (by kernel_rfl) (by kernel_rfl) (by kernel_rfl) (fun _ _ _ h => h) (Or.inl ⟨by rfl, by intro W hW; have hc := (H3.out.below hW).st.od.cell b hb; clear hW; go_simp⟩) hHeld ?_
  simp only [put_laws]
  refine take_at 4 46 (.int .i64 (a : Nat)) rfl rfl (by kernel_rfl) (by kernel_rfl) (by kernel_rfl) (fun _ _ _ h => h) (Or.inl ⟨by rfl, by intro W hW; clear hW; go_simp⟩) hHeld ?_
  simp only [put_laws]
  refine take_at 5 47 (.pointer (some ⟨w.heap.size + 1, a, none⟩)) rfl rfl (by kernel_rfl) (by kernel_rfl) (by kernel_rfl) (fun _ _ _ h => h) (Or.inl ⟨by rfl, by intro W hW; clear hW; go_simp; intro h; omega⟩) hHeld ?_
  simp only [put_laws]
  refine take_at 6 48 (.int .i64 (o a)) rfl rfl (by kernel_rfl) (by kernel_rfl) (by kernel_rfl) (fun _ _ _ h => h) (Or.inl ⟨by rfl, by intro W hW; have hc := (H3.out.below hW).st.od.cell a ha; clear hW; go_simp⟩) hHeld ?_
  simp only [put_laws]
  refine wpAnyH_ready (rs := [7, 8]) (by kernel_rfl) (by simp) ?_
  refine AllReadyH.cons rfl (fun K hK => ?_) (AllReadyH.cons rfl (fun K hK => ?_) AllReadyH.nil)
  · go_simp
    refine (between_any o _ _ _ HOk.out).mono ?_
    rintro e w3 ⟨rfl, hb3⟩
    try go_simp
    have hHeld := hHeld.trans (hb3.mono hHeld.size)
    have hKeep := hHeld
    refine hK.out _ _ hHeld (fun hHeld => ?_)
    clear hK K hb3
    refine wpAnyH_ready (rs := [8]) (by kernel_rfl) (by simp) ?_
    refine AllReadyH.cons rfl (fun K hK => ?_) AllReadyH.nil
    go_simp
    refine hK.out _ _ (hHeld.alloc hHeld.size (.cells #[.int .u64 0] 82)) (fun hHeld => ?_)
    clear hK K
    refine wpAnyH_ready (rs := [9]) (by kernel_rfl) (by simp) ?_
    refine AllReadyH.cons rfl (fun K hK => ?_) AllReadyH.nil
    go_simp
    have hHeld := hKeep.alloc hKeep.size (.cells #[.int .u64 (Od.band o (o b) (o a) 32 : Nat)] 82)
    have HC := Lib.hid (cell_row0 (heap_alloc_new w3 (.cells #[.int .u64 (Od.band o (o b) (o a) 32 : Nat)] 82)))
    refine hK.out _ _ hHeld (fun hHeld => ?_)
    clear hK K hKeep
    refine wpAnyH_done (by kernel_rfl) ?_ _
    refine NoPanic.normal ?_
    have HI := Lib.hid (H3.out.below hHeld)
    clear hHeld H3
    go_wp2_with fail
    refine (tspread_fore m _ w3.heap.size w.heap.size b _ _ hm (Od.band_lt o _ _) hb (LSt.mk HC.out HI.out.st.gr) HI.out.st.tab HLF.out).mono ?_
    rintro e w4 ⟨rfl, hb4⟩
    have HI4 := Lib.hid (HI.out.below hb4)
    have HL4 := Lib.hid ((LSt.mk HC.out HI.out.st.gr).below hb4)
    clear hb4 HI HC
    go_wp2_with (go_at_call 133; refine (has_val _ _ _ _ hfl (by omega) HF.out).mono ?_; rintro e w' ⟨rfl, rfl⟩)
    refine wp_region_noPanic ?_
    refine region_start (S := ISt 84 85 w m o) 5 rfl (by kernel_rfl) (HI4.out.st.drew) (fun hHeld => ?_)
    refine take_at 0 56 (.agg (matA m)) rfl rfl (by kernel_rfl) (by kernel_rfl) (by kernel_rfl) (fun _ _ _ h => h) (yields_row (by rfl) 84 (.tmp 4) rfl (w.heap.size) rfl 84 (matA m) (fun W h => h.gr) Tryz.underlying84 (matInfo _)) hHeld ?_
    simp only [put_laws]
    refine take_at 1 57 (.agg (ordA o)) rfl rfl (by kernel_rfl) (by kernel_rfl) (by kernel_rfl) (fun _ _ _ h => h) (yields_row (by rfl) 85 (.tmp 5) rfl (w.heap.size + 1) rfl 85 (ordA o) (fun W h => h.od) Tryz.underlying85 (ordInfo _)) hHeld ?_
    simp only [put_laws]
    refine wpAnyH_ready (rs := [2]) (by kernel_rfl) (by simp) ?_
    refine AllReadyH.cons rfl (fun K hK => ?_) AllReadyH.nil
    obtain ⟨old, hold⟩ := hHeld.rg
    refine step_store_row (by rfl) 84 (.tmp 8) (.tmp 56) (by rfl) (w.heap.size + 2) (matA m) (by rfl) (by rfl) 84 _ hold (matInfo _) (by rw [matA_size, matA_size]) (matA_one _) ?_
    clear hold
    obtain ⟨hHeld, hRG⟩ := hHeld.setG (n := m)
    refine hK.out _ _ hHeld (fun hHeld => ?_)
    clear hK K
    refine wpAnyH_ready (rs := [3]) (by kernel_rfl) (by simp) ?_
    refine AllReadyH.cons rfl (fun K hK => ?_) AllReadyH.nil
    obtain ⟨old, hold⟩ := hHeld.ro
    refine step_store_row (by rfl) 85 (.tmp 9) (.tmp 57) (by rfl) (w.heap.size + 3) (ordA o) (by rfl) (by rfl) 85 _ hold (ordInfo _) (by rw [ordA_size, ordA_size]) (ordA_one _) ?_
    clear hold
    have hRG := hRG.setRow (k := w.heap.size + 3) (ordA o) (by omega)
    obtain ⟨hHeld, hRO⟩ := hHeld.setO (q := o)
    refine hK.out _ _ hHeld (fun hHeld => ?_)
    clear hK K
    refine take_at 4 10 (.bool false) rfl rfl (by kernel_rfl) (by kernel_rfl) (by kernel_rfl) (fun _ _ _ h => h) (Or.inl ⟨by rfl, by intro W hW; clear hW; go_simp⟩) hHeld ?_
    simp only [put_laws]
    refine wpAnyH_done (by kernel_rfl) ?_ _
    refine NoPanic.normal ?_
    go_wp2
    have hEnd := hHeld.bel
    refine bodyPost_ret (results_three rfl _ _ (w.heap.size + 2) (w.heap.size + 3) 84 85 (matA m) (ordA o) _ _ _ _ (.bool false) rfl rfl rfl hRG hRO Tryz.underlying84 Tryz.underlying85 (matInfo _) (ordInfo _)) rfl ⟨rfl, hEnd⟩
  · go_simp
    refine hK.out _ _ (hHeld.alloc hHeld.size (.cells #[.int .u64 0] 82)) (fun hHeld => ?_)
    clear hK K
    refine wpAnyH_ready (rs := [7]) (by kernel_rfl) (by simp) ?_
    refine AllReadyH.cons rfl (fun K hK => ?_) AllReadyH.nil
    go_simp
    refine (between_any o _ _ _ HOk.out).mono ?_
    rintro e w3 ⟨rfl, hb3⟩
    try go_simp
    have hHeld := hHeld.trans (hb3.mono hHeld.size)
    have hN0 := new_kept _ _ hb3
    have hN : w3.heap[w2.heap.size]? = some (.cells #[.int .u64 0] 82 (0, 0)) := hN0
    have hcB := cell_row0 hN
    have hfB := frozen_of_row (i := 0) hN
    have HN := Lib.hid hN
    refine hK.out _ _ hHeld (fun hHeld => ?_)
    clear hK K hb3 hN hN0
    refine wpAnyH_ready (rs := [9]) (by kernel_rfl) (by simp) ?_
    refine AllReadyH.cons rfl (fun K hK => ?_) AllReadyH.nil
    go_simp
    have hHeld := hHeld.setCell (p := ⟨w2.heap.size, 0, none⟩) (Nat.le_refl _) (.int .u64 (Od.band o (o b) (o a) 32 : Nat))
    have HC := Lib.hid (heap_set0 (y := .int .u64 (Od.band o (o b) (o a) 32 : Nat)) HN.out)
    refine hK.out _ _ hHeld (fun hHeld => ?_)
    clear hK K hcB hfB HN
    refine wpAnyH_done (by kernel_rfl) ?_ _
    refine NoPanic.normal ?_
    have HI := Lib.hid (H3.out.below hHeld)
    clear hHeld H3
    go_wp2_with fail
    refine (tspread_fore m _ w2.heap.size w.heap.size b _ _ hm (Od.band_lt o _ _) hb (LSt.mk HC.out HI.out.st.gr) HI.out.st.tab HLF.out).mono ?_
    rintro e w4 ⟨rfl, hb4⟩
    have HI4 := Lib.hid (HI.out.below hb4)
    have HL4 := Lib.hid ((LSt.mk HC.out HI.out.st.gr).below hb4)
    clear hb4 HI HC
    go_wp2_with (go_at_call 133; refine (has_val _ _ _ _ hfl (by omega) HF.out).mono ?_; rintro e w' ⟨rfl, rfl⟩)
    refine wp_region_noPanic ?_
    refine region_start (S := ISt 84 85 w m o) 5 rfl (by kernel_rfl) (HI4.out.st.drew) (fun hHeld => ?_)
    refine take_at 0 56 (.agg (matA m)) rfl rfl (by kernel_rfl) (by kernel_rfl) (by kernel_rfl) (fun _ _ _ h => h) (yields_row (by rfl) 84 (.tmp 4) rfl (w.heap.size) rfl 84 (matA m) (fun W h => h.gr) Tryz.underlying84 (matInfo _)) hHeld ?_
    simp only [put_laws]
    refine take_at 1 57 (.agg (ordA o)) rfl rfl (by kernel_rfl) (by kernel_rfl) (by kernel_rfl) (fun _ _ _ h => h) (yields_row (by rfl) 85 (.tmp 5) rfl (w.heap.size + 1) rfl 85 (ordA o) (fun W h => h.od) Tryz.underlying85 (ordInfo _)) hHeld ?_
    simp only [put_laws]
    refine wpAnyH_ready (rs := [2]) (by kernel_rfl) (by simp) ?_
    refine AllReadyH.cons rfl (fun K hK => ?_) AllReadyH.nil
    obtain ⟨old, hold⟩ := hHeld.rg
    refine step_store_row (by rfl) 84 (.tmp 8) (.tmp 56) (by rfl) (w.heap.size + 2) (matA m) (by rfl) (by rfl) 84 _ hold (matInfo _) (by rw [matA_size, matA_size]) (matA_one _) ?_
    clear hold
    obtain ⟨hHeld, hRG⟩ := hHeld.setG (n := m)
    refine hK.out _ _ hHeld (fun hHeld => ?_)
    clear hK K
    refine wpAnyH_ready (rs := [3]) (by kernel_rfl) (by simp) ?_
    refine AllReadyH.cons rfl (fun K hK => ?_) AllReadyH.nil
    obtain ⟨old, hold⟩ := hHeld.ro
    refine step_store_row (by rfl) 85 (.tmp 9) (.tmp 57) (by rfl) (w.heap.size + 3) (ordA o) (by rfl) (by rfl) 85 _ hold (ordInfo _) (by rw [ordA_size, ordA_size]) (ordA_one _) ?_
    clear hold
    have hRG := hRG.setRow (k := w.heap.size + 3) (ordA o) (by omega)
    obtain ⟨hHeld, hRO⟩ := hHeld.setO (q := o)
    refine hK.out _ _ hHeld (fun hHeld => ?_)
    clear hK K
    refine take_at 4 10 (.bool false) rfl rfl (by kernel_rfl) (by kernel_rfl) (by kernel_rfl) (fun _ _ _ h => h) (Or.inl ⟨by rfl, by intro W hW; clear hW; go_simp⟩) hHeld ?_
    simp only [put_laws]
    refine wpAnyH_done (by kernel_rfl) ?_ _
    refine NoPanic.normal ?_
    go_wp2
    have hEnd := hHeld.bel
    refine bodyPost_ret (results_three rfl _ _ (w.heap.size + 2) (w.heap.size + 3) 84 85 (matA m) (ordA o) _ _ _ _ (.bool false) rfl rfl rfl hRG hRO Tryz.underlying84 Tryz.underlying85 (matInfo _) (ordInfo _)) rfl ⟨rfl, hEnd⟩
set_option maxHeartbeats 4000000 in
set_option maxRecDepth 100000 in
theorem insert_down_any (m : Mm.Gr) (o : Od.O) (a b : Nat) (w : World) (hm : Mm.Ok m) (ha : a < 32) (hb : b < 32) (hab : a ≠ b) (hs : Od.Sorted m o) (hlt : o b ≤ o a) (hf : (Od.fore m o a b).testBit a = false) (hT : TabAt w) :
    Calls Tryz.prog 116 #[.agg (matA m), .agg (ordA o), .int .i64 (a : Nat), .int .i64 (b : Nat)] w fun e w' => e = .returned (.tuple #[.agg (matA (Mm.put m a b)), .agg (ordA (Od.relay o (Od.hind m o a b) (Od.fore m o a b))), .bool true]) ∧ Below w.heap.size w w' := by
  have HSB := Lib.hid (Od.sortedB_yes hs)
  have HR := Lib.hid hs.1
  have HOk := Lib.hid hs.1.ok
  have HF := Lib.hid hf
  have HA := Lib.hid (Od.both_apart ha hb hf)
  have HLF := Lib.hid (Od.least_fore (m := m) hb hlt)
  have HLH := Lib.hid (Od.least_hind (m := m) ha hlt)
  have HbF := Lib.hid ((Od.fore_test (m := m) (o := o) (a := a) hb b).2 (.inl rfl))
  have hfl : Od.fore m o a b < 18446744073709551616 := Nat.lt_trans (Od.fore_lt hb) (by decide)
  clear hs hf
  have HT := Lib.hid (ist_first 84 85 m o hT)
  clear hT
  go_enter Tryz.func116, Tryz.ntmps116
  go_wp2_with (refine wpList_load_row rfl 84 (.tmp 4) rfl w.heap.size rfl 84 (matA m) (0, 0) _ HT.out.gr Tryz.underlying84 rfl (matInfo m) ?_)
  refine (put_yes m a b _ hm ha hb hab).mono ?_
  rintro e w1 ⟨rfl, hb1⟩
  have H1 := Lib.hid (iw_first (n := Mm.put m a b) HT.out hb1)
  clear hb1 HT
  go_wp2_with (first
    | (refine wpList_store_row rfl 84 (.tmp 11) (.tmp 21) rfl w1.heap.size (matA (Mm.put m a b)) rfl rfl 84 _ (heap_alloc_new _ _) (matInfo _) (by rw [matA_size]; rfl) (matA_one _) ?_; rw [World.setRow_alloc_new])
    | (refine wpList_load_want rfl 84 (.tmp 4) rfl w.heap.size rfl 84 (matA m) (0, 0) _ _ H1.out.st.gr Tryz.underlying84 (matInfo _) ?_)
    | (refine wpList_load_want rfl 85 (.tmp 5) rfl (w.heap.size + 1) rfl 85 (ordA o) (0, 0) _ _ H1.out.st.od Tryz.underlying85 (ordInfo _) ?_))
  refine (sorted_val m o true _ hm HOk.out H1.out.st.tab HSB.out).mono ?_
  rintro e w2 ⟨rfl, hb2⟩
  have H2 := Lib.hid (H1.out.below hb2)
  clear hb2 H1
  have hc1 := H2.out.st.od.cell a ha
  have hc2 := H2.out.st.od.cell b hb
  go_wp2
  go_quiet (fail)
  have H3 := Lib.hid (H2.out.below (below_drewN (Below.refl _ _) nq))
  clear H2 hc1 hc2
  go_wp2
  refine wp_region_noPanic ?_
  refine region_start (S := Below (w2.drewN nq).heap.size (w2.drewN nq)) 10 rfl (by kernel_rfl) (below_drew _) (fun hHeld => ?_)
  refine take_at 0 42 (.agg (ordA o)) rfl rfl (by kernel_rfl) (by kernel_rfl) (by kernel_rfl) (fun _ _ _ h => h) (yields_row (by rfl) 85 (.tmp 5) rfl (w.heap.size + 1) rfl 85 (ordA o) (fun W h => (H3.out.below h).st.od) Tryz.underlying85 (ordInfo _)) hHeld ?_
  simp only [put_laws]
  refine take_at 1 43 (.int .i64 (b : Nat)) rfl rfl (by kernel_rfl) (by kernel_rfl) (by kernel_rfl) (fun _ _ _ h => h) (Or.inl ⟨by rfl, by intro W hW; clear hW; go_simp⟩) hHeld ?_
  simp only [put_laws]
  refine take_at 2 44 (.pointer (some ⟨w.heap.size + 1, b, none⟩)) rfl rfl (by kernel_rfl) (by kernel_rfl) (by kernel_rfl) (fun _ _ _ h => h) (Or.inl ⟨by rfl, by intro W hW; clear hW; go_simp; intro h; omega⟩) hHeld ?_
  simp only [put_laws]
  refine take_at 3 45 (.int .i64 (o b)) rfl rfl (by kernel_rfl) (by kernel_rfl) (by kernel_rfl) (fun _ _ _ h => h) (Or.inl ⟨by rfl, by intro W hW; have hc := (H3.out.below hW).st.od.cell b hb; clear hW; go_simp⟩) hHeld ?_
  simp only [put_laws]
  refine take_at 4 46 (.int .i64 (a : Nat)) rfl rfl (by kernel_rfl) (by kernel_rfl) (by kernel_rfl) (fun _ _ _ h => h) (Or.inl ⟨by rfl, by intro W hW; clear hW; go_simp⟩) hHeld ?_
  simp only [put_laws]
  refine take_at 5 47 (.pointer (some ⟨w.heap.size + 1, a, none⟩)) rfl rfl (by kernel_rfl) (by kernel_rfl) (by kernel_rfl) (fun _ _ _ h => h) (Or.inl ⟨by rfl, by intro W hW; clear hW; go_simp; intro h; omega⟩) hHeld ?_
  simp only [put_laws]
  refine take_at 6 48 (.int .i64 (o a)) rfl rfl (by kernel_rfl) (by kernel_rfl) (by kernel_rfl) (fun _ _ _ h => h) (Or.inl ⟨by rfl, by intro W hW; have hc := (H3.out.below hW).st.od.cell a ha; clear hW; go_simp⟩) hHeld ?_
  simp only [put_laws]
  refine wpAnyH_ready (rs := [7, 8]) (by kernel_rfl) (by simp) ?_
  refine AllReadyH.cons rfl (fun K hK => ?_) (AllReadyH.cons rfl (fun K hK => ?_) AllReadyH.nil)
  · go_simp
    refine (between_any o _ _ _ HOk.out).mono ?_
    rintro e w3 ⟨rfl, hb3⟩
    try go_simp
    have hHeld := hHeld.trans (hb3.mono hHeld.size)
    have hKeep := hHeld
    refine hK.out _ _ hHeld (fun hHeld => ?_)
    clear hK K hb3
    refine wpAnyH_ready (rs := [8]) (by kernel_rfl) (by simp) ?_
    refine AllReadyH.cons rfl (fun K hK => ?_) AllReadyH.nil
    go_simp
    refine hK.out _ _ (hHeld.alloc hHeld.size (.cells #[.int .u64 0] 82)) (fun hHeld => ?_)
    clear hK K
    refine wpAnyH_ready (rs := [9]) (by kernel_rfl) (by simp) ?_
    refine AllReadyH.cons rfl (fun K hK => ?_) AllReadyH.nil
    go_simp
    have hHeld := hKeep.alloc hKeep.size (.cells #[.int .u64 (Od.band o (o b) (o a) 32 : Nat)] 82)
    have HC := Lib.hid (cell_row0 (heap_alloc_new w3 (.cells #[.int .u64 (Od.band o (o b) (o a) 32 : Nat)] 82)))
    refine hK.out _ _ hHeld (fun hHeld => ?_)
    clear hK K hKeep
    refine wpAnyH_done (by kernel_rfl) ?_ _
    refine NoPanic.normal ?_
    have HI := Lib.hid (H3.out.below hHeld)
    clear hHeld H3
    go_wp2_with fail
    refine (tspread_fore m _ w3.heap.size w.heap.size b _ _ hm (Od.band_lt o _ _) hb (LSt.mk HC.out HI.out.st.gr) HI.out.st.tab HLF.out).mono ?_
    rintro e w4 ⟨rfl, hb4⟩
    have HI4 := Lib.hid (HI.out.below hb4)
    have HL4 := Lib.hid ((LSt.mk HC.out HI.out.st.gr).below hb4)
    clear hb4 HI HC
    go_wp2_with (go_at_call 133; refine (has_val _ _ _ _ hfl (by omega) HF.out).mono ?_; rintro e w' ⟨rfl, rfl⟩)
    refine (tspread_hind m _ w3.heap.size w.heap.size a _ _ hm (Od.band_lt o _ _) ha HL4.out HI4.out.st.tab HLH.out).mono ?_
    rintro e w5 ⟨rfl, hb5⟩
    have HI5 := Lib.hid (HI4.out.below hb5)
    clear hb5 HI4 HL4
    go_wp2_with fail
    refine wp_region_noPanic ?_
    refine region_start (S := IW 84 85 w m o w1.heap.size (Mm.put m a b)) 8 rfl (by kernel_rfl) (HI5.out.below (below_drew _)) (fun hHeld => ?_)
    refine take_at 0 61 (.agg (matA (Mm.put m a b))) rfl rfl (by kernel_rfl) (by kernel_rfl) (by kernel_rfl) (fun _ _ _ h => h) (yields_row (by rfl) 84 (.tmp 11) rfl (w1.heap.size) rfl 84 (matA (Mm.put m a b)) (fun W h => h.wi) Tryz.underlying84 (matInfo _)) hHeld ?_
    simp only [put_laws]
    refine take_at 1 62 (.agg (ordA o)) rfl rfl (by kernel_rfl) (by kernel_rfl) (by kernel_rfl) (fun _ _ _ h => h) (yields_row (by rfl) 85 (.tmp 5) rfl (w.heap.size + 1) rfl 85 (ordA o) (fun W h => h.st.od) Tryz.underlying85 (ordInfo _)) hHeld ?_
    simp only [put_laws]
    refine take_at 2 63 (.int .u64 (Od.hind m o a b : Nat)) rfl rfl (by kernel_rfl) (by kernel_rfl) (by kernel_rfl) (fun _ _ _ h => h) (Or.inl ⟨by rfl, by intro W hW; clear hW; go_simp⟩) hHeld ?_
    simp only [put_laws]
    refine take_at 3 64 (.int .u64 (Od.fore m o a b : Nat)) rfl rfl (by kernel_rfl) (by kernel_rfl) (by kernel_rfl) (fun _ _ _ h => h) (Or.inl ⟨by rfl, by intro W hW; clear hW; go_simp⟩) hHeld ?_
    simp only [put_laws]
    refine wpAnyH_ready (rs := [4]) (by kernel_rfl) (by simp) ?_
    refine AllReadyH.cons rfl (fun K hK => ?_) AllReadyH.nil
    go_simp
    refine (relay_any o _ _ b _ HR.out (Od.hind_lt ha) (Od.fore_lt hb) HA.out hb HbF.out hHeld.st.tab).mono ?_
    rintro e w6 ⟨rfl, hb6⟩
    try go_simp
    have hHeld := hHeld.below hb6
    refine hK.out _ _ hHeld (fun hHeld => ?_)
    clear hK K
    refine wpAnyH_ready (rs := [5]) (by kernel_rfl) (by simp) ?_
    refine AllReadyH.cons rfl (fun K hK => ?_) AllReadyH.nil
    obtain ⟨old, hold⟩ := hHeld.st.rg
    refine step_store_row (by rfl) 84 (.tmp 8) (.tmp 61) (by rfl) (w.heap.size + 2) (matA (Mm.put m a b)) (by rfl) (by rfl) 84 _ hold (matInfo _) (by rw [matA_size, matA_size]) (matA_one _) ?_
    clear hold
    have hRG := (hHeld.st.setG (n := (Mm.put m a b))).2
    have hHeld := hHeld.setG (k := (Mm.put m a b))
    refine hK.out _ _ hHeld (fun hHeld => ?_)
    clear hK K
    refine wpAnyH_ready (rs := [6]) (by kernel_rfl) (by simp) ?_
    refine AllReadyH.cons rfl (fun K hK => ?_) AllReadyH.nil
    obtain ⟨old, hold⟩ := hHeld.st.ro
    refine step_store_row (by rfl) 85 (.tmp 9) (.tmp 65) (by rfl) (w.heap.size + 3) (ordA (Od.relay o (Od.hind m o a b) (Od.fore m o a b))) (by rfl) (by rfl) 85 _ hold (ordInfo _) (by rw [ordA_size, ordA_size]) (ordA_one _) ?_
    clear hold
    have hRG := hRG.setRow (k := w.heap.size + 3) (ordA (Od.relay o (Od.hind m o a b) (Od.fore m o a b))) (by omega)
    have hRO := (hHeld.st.setO (q := (Od.relay o (Od.hind m o a b) (Od.fore m o a b)))).2
    have hHeld := hHeld.setO (q := (Od.relay o (Od.hind m o a b) (Od.fore m o a b)))
    refine hK.out _ _ hHeld (fun hHeld => ?_)
    clear hK K
    refine take_at 7 10 (.bool true) rfl rfl (by kernel_rfl) (by kernel_rfl) (by kernel_rfl) (fun _ _ _ h => h) (Or.inl ⟨by rfl, by intro W hW; clear hW; go_simp⟩) hHeld ?_
    simp only [put_laws]
    refine wpAnyH_done (by kernel_rfl) ?_ _
    refine NoPanic.normal ?_
    go_wp2
    have hEnd := hHeld.st.bel
    refine bodyPost_ret (results_three rfl _ _ (w.heap.size + 2) (w.heap.size + 3) 84 85 (matA (Mm.put m a b)) (ordA (Od.relay o (Od.hind m o a b) (Od.fore m o a b))) _ _ _ _ (.bool true) rfl rfl rfl hRG hRO Tryz.underlying84 Tryz.underlying85 (matInfo _) (ordInfo _)) rfl ⟨rfl, hEnd⟩
  · go_simp
    refine hK.out _ _ (hHeld.alloc hHeld.size (.cells #[.int .u64 0] 82)) (fun hHeld => ?_)
    clear hK K
    refine wpAnyH_ready (rs := [7]) (by kernel_rfl) (by simp) ?_
    refine AllReadyH.cons rfl (fun K hK => ?_) AllReadyH.nil
    go_simp
    refine (between_any o _ _ _ HOk.out).mono ?_
    rintro e w3 ⟨rfl, hb3⟩
    try go_simp
    have hHeld := hHeld.trans (hb3.mono hHeld.size)
    have hN0 := new_kept _ _ hb3
    have hN : w3.heap[w2.heap.size]? = some (.cells #[.int .u64 0] 82 (0, 0)) := hN0
    have hcB := cell_row0 hN
    have hfB := frozen_of_row (i := 0) hN
    have HN := Lib.hid hN
    refine hK.out _ _ hHeld (fun hHeld => ?_)
    clear hK K hb3 hN hN0
    refine wpAnyH_ready (rs := [9]) (by kernel_rfl) (by simp) ?_
    refine AllReadyH.cons rfl (fun K hK => ?_) AllReadyH.nil
    go_simp
    have hHeld := hHeld.setCell (p := ⟨w2.heap.size, 0, none⟩) (Nat.le_refl _) (.int .u64 (Od.band o (o b) (o a) 32 : Nat))
    have HC := Lib.hid (heap_set0 (y := .int .u64 (Od.band o (o b) (o a) 32 : Nat)) HN.out)
    refine hK.out _ _ hHeld (fun hHeld => ?_)
    clear hK K hcB hfB HN
    refine wpAnyH_done (by kernel_rfl) ?_ _
    refine NoPanic.normal ?_
    have HI := Lib.hid (H3.out.below hHeld)
    clear hHeld H3
    go_wp2_with fail
    refine (tspread_fore m _ w2.heap.size w.heap.size b _ _ hm (Od.band_lt o _ _) hb (LSt.mk HC.out HI.out.st.gr) HI.out.st.tab HLF.out).mono ?_
    rintro e w4 ⟨rfl, hb4⟩
    have HI4 := Lib.hid (HI.out.below hb4)
    have HL4 := Lib.hid ((LSt.mk HC.out HI.out.st.gr).below hb4)
    clear hb4 HI HC
    go_wp2_with (go_at_call 133; refine (has_val _ _ _ _ hfl (by omega) HF.out).mono ?_; rintro e w' ⟨rfl, rfl⟩)
    refine (tspread_hind m _ w2.heap.size w.heap.size a _ _ hm (Od.band_lt o _ _) ha HL4.out HI4.out.st.tab HLH.out).mono ?_
    rintro e w5 ⟨rfl, hb5⟩
    have HI5 := Lib.hid (HI4.out.below hb5)
    clear hb5 HI4 HL4
    go_wp2_with fail
    refine wp_region_noPanic ?_
    refine region_start (S := IW 84 85 w m o w1.heap.size (Mm.put m a b)) 8 rfl (by kernel_rfl) (HI5.out.below (below_drew _)) (fun hHeld => ?_)
    refine take_at 0 61 (.agg (matA (Mm.put m a b))) rfl rfl (by kernel_rfl) (by kernel_rfl) (by kernel_rfl) (fun _ _ _ h => h) (yields_row (by rfl) 84 (.tmp 11) rfl (w1.heap.size) rfl 84 (matA (Mm.put m a b)) (fun W h => h.wi) Tryz.underlying84 (matInfo _)) hHeld ?_
    simp only [put_laws]
    refine take_at 1 62 (.agg (ordA o)) rfl rfl (by kernel_rfl) (by kernel_rfl) (by kernel_rfl) (fun _ _ _ h => h) (yields_row (by rfl) 85 (.tmp 5) rfl (w.heap.size + 1) rfl 85 (ordA o) (fun W h => h.st.od) Tryz.underlying85 (ordInfo _)) hHeld ?_
    simp only [put_laws]
    refine take_at 2 63 (.int .u64 (Od.hind m o a b : Nat)) rfl rfl (by kernel_rfl) (by kernel_rfl) (by kernel_rfl) (fun _ _ _ h => h) (Or.inl ⟨by rfl, by intro W hW; clear hW; go_simp⟩) hHeld ?_
    simp only [put_laws]
    refine take_at 3 64 (.int .u64 (Od.fore m o a b : Nat)) rfl rfl (by kernel_rfl) (by kernel_rfl) (by kernel_rfl) (fun _ _ _ h => h) (Or.inl ⟨by rfl, by intro W hW; clear hW; go_simp⟩) hHeld ?_
    simp only [put_laws]
    refine wpAnyH_ready (rs := [4]) (by kernel_rfl) (by simp) ?_
    refine AllReadyH.cons rfl (fun K hK => ?_) AllReadyH.nil
    go_simp
    refine (relay_any o _ _ b _ HR.out (Od.hind_lt ha) (Od.fore_lt hb) HA.out hb HbF.out hHeld.st.tab).mono ?_
    rintro e w6 ⟨rfl, hb6⟩
    try go_simp
    have hHeld := hHeld.below hb6
    refine hK.out _ _ hHeld (fun hHeld => ?_)
    clear hK K
    refine wpAnyH_ready (rs := [5]) (by kernel_rfl) (by simp) ?_
    refine AllReadyH.cons rfl (fun K hK => ?_) AllReadyH.nil
    obtain ⟨old, hold⟩ := hHeld.st.rg
    refine step_store_row (by rfl) 84 (.tmp 8) (.tmp 61) (by rfl) (w.heap.size + 2) (matA (Mm.put m a b)) (by rfl) (by rfl) 84 _ hold (matInfo _) (by rw [matA_size, matA_size]) (matA_one _) ?_
    clear hold
    have hRG := (hHeld.st.setG (n := (Mm.put m a b))).2
    have hHeld := hHeld.setG (k := (Mm.put m a b))
    refine hK.out _ _ hHeld (fun hHeld => ?_)
    clear hK K
    refine wpAnyH_ready (rs := [6]) (by kernel_rfl) (by simp) ?_
    refine AllReadyH.cons rfl (fun K hK => ?_) AllReadyH.nil
    obtain ⟨old, hold⟩ := hHeld.st.ro
    refine step_store_row (by rfl) 85 (.tmp 9) (.tmp 65) (by rfl) (w.heap.size + 3) (ordA (Od.relay o (Od.hind m o a b) (Od.fore m o a b))) (by rfl) (by rfl) 85 _ hold (ordInfo _) (by rw [ordA_size, ordA_size]) (ordA_one _) ?_
    clear hold
    have hRG := hRG.setRow (k := w.heap.size + 3) (ordA (Od.relay o (Od.hind m o a b) (Od.fore m o a b))) (by omega)
    have hRO := (hHeld.st.setO (q := (Od.relay o (Od.hind m o a b) (Od.fore m o a b)))).2
    have hHeld := hHeld.setO (q := (Od.relay o (Od.hind m o a b) (Od.fore m o a b)))
    refine hK.out _ _ hHeld (fun hHeld => ?_)
    clear hK K
    refine take_at 7 10 (.bool true) rfl rfl (by kernel_rfl) (by kernel_rfl) (by kernel_rfl) (fun _ _ _ h => h) (Or.inl ⟨by rfl, by intro W hW; clear hW; go_simp⟩) hHeld ?_
    simp only [put_laws]
    refine wpAnyH_done (by kernel_rfl) ?_ _
    refine NoPanic.normal ?_
    go_wp2
    have hEnd := hHeld.st.bel
    refine bodyPost_ret (results_three rfl _ _ (w.heap.size + 2) (w.heap.size + 3) 84 85 (matA (Mm.put m a b)) (ordA (Od.relay o (Od.hind m o a b) (Od.fore m o a b))) _ _ _ _ (.bool true) rfl rfl rfl hRG hRO Tryz.underlying84 Tryz.underlying85 (matInfo _) (ordInfo _)) rfl ⟨rfl, hEnd⟩
/-- what topo.Insert tells is the plain mathematics'. -/
theorem insert_any (m : Mm.Gr) (o : Od.O) (a b : Int) (w : World) (hm : Mm.Ok m) (ho : Od.Ok o) (ha : -9223372036854775808 ≤ a ∧ a ≤ 9223372036854775807) (hb : -9223372036854775808 ≤ b ∧ b ≤ 9223372036854775807) (hT : TabAt w) :
    Calls Tryz.prog 116 #[.agg (matA m), .agg (ordA o), .int .i64 a, .int .i64 b] w fun e w' => e = .returned (.tuple #[.agg (matA (Od.insert m o a b).1), .agg (ordA (Od.insert m o a b).2.1), .bool (Od.insert m o a b).2.2]) ∧ Below w.heap.size w w' := by
  refine Od.insert_cases m o a b (fun r => Calls Tryz.prog 116 #[.agg (matA m), .agg (ordA o), .int .i64 a, .int .i64 b] w fun e w' => e = .returned (.tuple #[.agg (matA r.1), .agg (ordA r.2.1), .bool r.2.2]) ∧ Below w.heap.size w w') ?_ ?_ ?_ ?_
  · intro h
    by_cases hM : Od.May a b
    · have hs : ¬ Od.Sorted m o := fun hs => h ⟨hM, hs⟩
      obtain ⟨⟨a0, a1⟩, ⟨b0, b1⟩, hne⟩ := hM
      obtain ⟨x, rfl⟩ := Int.eq_ofNat_of_zero_le a0
      obtain ⟨y, rfl⟩ := Int.eq_ofNat_of_zero_le b0
      exact insert_unsorted m o x y w hm ho (by omega) (by omega) (by omega) hs hT
    · exact insert_bad m o a b w ha hb hM hT
  · rintro x y rfl rfl hx hy hxy hs hlt
    exact insert_up_any m o x y w hm hx hy hxy hs hlt hT
  · rintro x y rfl rfl hx hy hxy hs hlt hf
    exact insert_round_any m o x y w hm hx hy hxy hs hlt hf hT
  · rintro x y rfl rfl hx hy hxy hs hlt hf
    exact insert_down_any m o x y w hm hx hy hxy hs hlt hf hT
end Go.Proofs.YtfdfiiocccafkaaGreatDoor
