/-
  The walk of MatWays.
-/
import Derived.Test.YtjciikdhjgekgaaDoorMatLaw
import Derived.Test.YtjciikdhjgekgaaDoorMatRef3
namespace Go.Proofs.YtjciikdhjgekgaaDoor
open Go.RowKit
attribute [local go_sem ↓] Go.wp_at_zero Go.wp_at_succ
theorem turn_ways (m : Mm.Gr) (a : Nat) : Mm.ways (Mm.E (turn m)) a = Mm.ways (fun i j => Mm.E m j i) a :=
  Mm.ways_congr fun _ => ⟨fun h => h.mono fun _ _ h' => (turn_E m _ _).1 h', fun h => h.mono fun _ _ h' => (turn_E m _ _).2 h'⟩
theorem rreach_turn (m : Mm.Gr) (a : Nat) (w : World) (ha : a < 32) :
    Calls Tryd.prog 24 #[.agg (matA (turn m)), .int .i64 (a : Nat)] w fun e w' => e = .returned (.int .u64 (Mm.ways (fun i j => Mm.E m j i) a : Nat)) ∧ Below w.heap.size w w' := by
  have := rreach_in (turn m) a w (turn_ok m) ha
  rw [turn_ways] at this
  exact this
set_option maxHeartbeats 4000000 in
set_option maxRecDepth 100000 in
theorem ways_in (m : Mm.Gr) (a : Nat) (w : World) (hm : Mm.Ok m) (ha : a < 32) (hT : TabAt w) :
    Calls Tryd.prog 4 #[.agg (matA m), .int .i64 (a : Nat)] w fun e w' => e = .returned (.bool true) ∧ Below w.heap.size w w' := by
  have HT := Lib.hid hT
  clear hT
  go_enter Tryd.func4, Tryd.ntmps4
  go_wp2_with fail
  refine (alive_any _ (tabAt_new HT.out _)).mono ?_
  rintro e w1 ⟨rfl, hb1⟩
  have H1 := Lib.hid ((matAt_new w m 24).below hb1)
  go_wp2_with (refine wpList_load_row rfl 24 (.tmp 2) rfl w.heap.size rfl 24 (matA m) (0, 0) _ H1.out Tryd.underlying24 rfl (rmatInfo m) ?_)
  refine (theirs_any m _).mono ?_
  rintro e w2 ⟨rfl, hb2⟩
  have HS := Lib.hid (st_first HT.out hb1 hb2)
  clear hb1 hb2 H1
  go_wp2_with (first
    | (refine wpList_store_row rfl 28 (.tmp 5) (.tmp 9) rfl w2.heap.size (matA m) rfl rfl 28 _ (heap_alloc_new _ _) (matInfo _) (by rw [matA_size]; rfl) (matA_one _) ?_; rw [World.setRow_alloc_new]))
  refine wp_region_noPanic ?_
  refine region_start (S := St w w2.heap.size m) 25 rfl (by kernel_rfl) (HS.out.drew) (fun hHeld => ?_)
  refine take_at 0 10 (.agg (matA m)) rfl rfl (by kernel_rfl) (by kernel_rfl) (by kernel_rfl) (fun _ _ _ h => h) (yields_mat (by rfl) 28 (.tmp 5) rfl (w2.heap.size) rfl 28 m (fun W h => h.theirs) Tryd.underlying28 (matInfo _)) hHeld ?_
  simp only [Act.put, List.setIfInBounds_toArray, List.set_cons_zero, List.set_cons_succ]
  refine take_at 1 11 (.int .i64 (a : Nat)) rfl rfl (by kernel_rfl) (by kernel_rfl) (by kernel_rfl) (fun _ _ _ h => h) (Or.inl ⟨by rfl, by intro W hW; clear hW; go_simp⟩) hHeld ?_
  simp only [Act.put, List.setIfInBounds_toArray, List.set_cons_zero, List.set_cons_succ]
  refine take_at 3 13 (.agg (matA m)) rfl rfl (by kernel_rfl) (by kernel_rfl) (by kernel_rfl) (fun _ _ _ h => h) (yields_mat (by rfl) 24 (.tmp 2) rfl (w.heap.size) rfl 24 m (fun W h => h.ours) Tryd.underlying24 (rmatInfo _)) hHeld ?_
  simp only [Act.put, List.setIfInBounds_toArray, List.set_cons_zero, List.set_cons_succ]
  refine take_at 4 14 (.int .i64 (a : Nat)) rfl rfl (by kernel_rfl) (by kernel_rfl) (by kernel_rfl) (fun _ _ _ h => h) (Or.inl ⟨by rfl, by intro W hW; clear hW; go_simp⟩) hHeld ?_
  simp only [Act.put, List.setIfInBounds_toArray, List.set_cons_zero, List.set_cons_succ]
  refine wpAnyH_ready (rs := [2]) (by kernel_rfl) (by simp) ?_
  refine AllReadyH.cons rfl (fun K hK => ?_) AllReadyH.nil
  go_simp
  refine (reach_in m a _ hm ha hHeld.tab).mono ?_
  rintro e w3 ⟨rfl, hb⟩
  try go_simp
  have hHeld := hHeld.below hb
  refine hK.out _ _ hHeld (fun hHeld => ?_)
  clear hK K hb
  refine wpAnyH_ready (rs := [5]) (by kernel_rfl) (by simp) ?_
  refine AllReadyH.cons rfl (fun K hK => ?_) AllReadyH.nil
  go_simp
  refine (rreach_in m a _ hm ha).mono ?_
  rintro e w4 ⟨rfl, hb⟩
  try go_simp
  have hHeld := hHeld.below hb
  refine hK.out _ _ hHeld (fun hHeld => ?_)
  clear hK K hb
  refine take_at 6 16 (.bool true) rfl rfl (by kernel_rfl) (by kernel_rfl) (by kernel_rfl) (fun _ _ _ h => h) (Or.inl ⟨by rfl, by intro W hW; clear hW; go_simp⟩) hHeld ?_
  simp only [Act.put, List.setIfInBounds_toArray, List.set_cons_zero, List.set_cons_succ]
  refine take_at 7 17 (.bool true) rfl rfl (by kernel_rfl) (by kernel_rfl) (by kernel_rfl) (fun _ _ _ h => h) (Or.inl ⟨by rfl, by intro W hW; clear hW; go_simp⟩) hHeld ?_
  simp only [Act.put, List.setIfInBounds_toArray, List.set_cons_zero, List.set_cons_succ]
  refine take_at 8 18 (.agg (matA m)) rfl rfl (by kernel_rfl) (by kernel_rfl) (by kernel_rfl) (fun _ _ _ h => h) (yields_mat (by rfl) 28 (.tmp 5) rfl (w2.heap.size) rfl 28 m (fun W h => h.theirs) Tryd.underlying28 (matInfo _)) hHeld ?_
  simp only [Act.put, List.setIfInBounds_toArray, List.set_cons_zero, List.set_cons_succ]
  refine take_at 9 19 (.int .i64 (a : Nat)) rfl rfl (by kernel_rfl) (by kernel_rfl) (by kernel_rfl) (fun _ _ _ h => h) (Or.inl ⟨by rfl, by intro W hW; clear hW; go_simp⟩) hHeld ?_
  simp only [Act.put, List.setIfInBounds_toArray, List.set_cons_zero, List.set_cons_succ]
  refine take_at 11 21 (.agg (matA m)) rfl rfl (by kernel_rfl) (by kernel_rfl) (by kernel_rfl) (fun _ _ _ h => h) (yields_mat (by rfl) 24 (.tmp 2) rfl (w.heap.size) rfl 24 m (fun W h => h.ours) Tryd.underlying24 (rmatInfo _)) hHeld ?_
  simp only [Act.put, List.setIfInBounds_toArray, List.set_cons_zero, List.set_cons_succ]
  refine take_at 13 23 (.int .i64 (a : Nat)) rfl rfl (by kernel_rfl) (by kernel_rfl) (by kernel_rfl) (fun _ _ _ h => h) (Or.inl ⟨by rfl, by intro W hW; clear hW; go_simp⟩) hHeld ?_
  simp only [Act.put, List.setIfInBounds_toArray, List.set_cons_zero, List.set_cons_succ]
  refine wpAnyH_ready (rs := [10]) (by kernel_rfl) (by simp) ?_
  refine AllReadyH.cons rfl (fun K hK => ?_) AllReadyH.nil
  go_simp
  refine (back_in m a _ hm ha hHeld.tab).mono ?_
  rintro e w5 ⟨rfl, hb⟩
  try go_simp
  have hHeld := hHeld.below hb
  refine hK.out _ _ hHeld (fun hHeld => ?_)
  clear hK K hb
  refine wpAnyH_ready (rs := [12]) (by kernel_rfl) (by simp) ?_
  refine AllReadyH.cons rfl (fun K hK => ?_) AllReadyH.nil
  go_simp
  refine (turn_any m _ hm).mono ?_
  rintro e w6 ⟨rfl, hb⟩
  try go_simp
  have hHeld := hHeld.below hb
  refine hK.out _ _ hHeld (fun hHeld => ?_)
  clear hK K hb
  refine wpAnyH_ready (rs := [14]) (by kernel_rfl) (by simp) ?_
  refine AllReadyH.cons rfl (fun K hK => ?_) AllReadyH.nil
  go_simp
  refine (rreach_turn m a _ ha).mono ?_
  rintro e w7 ⟨rfl, hb⟩
  try go_simp
  have hHeld := hHeld.below hb
  refine hK.out _ _ hHeld (fun hHeld => ?_)
  clear hK K hb
  refine take_at 15 25 (.bool true) rfl rfl (by kernel_rfl) (by kernel_rfl) (by kernel_rfl) (fun _ _ _ h => h) (Or.inl ⟨by rfl, by intro W hW; clear hW; go_simp⟩) hHeld ?_
  simp only [Act.put, List.setIfInBounds_toArray, List.set_cons_zero, List.set_cons_succ]
  refine take_at 16 26 (.bool true) rfl rfl (by kernel_rfl) (by kernel_rfl) (by kernel_rfl) (fun _ _ _ h => h) (Or.inl ⟨by rfl, by intro W hW; clear hW; go_simp⟩) hHeld ?_
  simp only [Act.put, List.setIfInBounds_toArray, List.set_cons_zero, List.set_cons_succ]
  refine take_at 17 27 (.bool true) rfl rfl (by kernel_rfl) (by kernel_rfl) (by kernel_rfl) (fun _ _ _ h => h) (Or.inl ⟨by rfl, by intro W hW; clear hW; go_simp⟩) hHeld ?_
  simp only [Act.put, List.setIfInBounds_toArray, List.set_cons_zero, List.set_cons_succ]
  refine take_at 18 28 (.agg (matA m)) rfl rfl (by kernel_rfl) (by kernel_rfl) (by kernel_rfl) (fun _ _ _ h => h) (yields_mat (by rfl) 28 (.tmp 5) rfl (w2.heap.size) rfl 28 m (fun W h => h.theirs) Tryd.underlying28 (matInfo _)) hHeld ?_
  simp only [Act.put, List.setIfInBounds_toArray, List.set_cons_zero, List.set_cons_succ]
  refine take_at 20 30 (.agg (matA m)) rfl rfl (by kernel_rfl) (by kernel_rfl) (by kernel_rfl) (fun _ _ _ h => h) (yields_mat (by rfl) 24 (.tmp 2) rfl (w.heap.size) rfl 24 m (fun W h => h.ours) Tryd.underlying24 (rmatInfo _)) hHeld ?_
  simp only [Act.put, List.setIfInBounds_toArray, List.set_cons_zero, List.set_cons_succ]
  refine wpAnyH_ready (rs := [19]) (by kernel_rfl) (by simp) ?_
  refine AllReadyH.cons rfl (fun K hK => ?_) AllReadyH.nil
  go_simp
  refine (free_any m _ hm hHeld.tab).mono ?_
  rintro e w8 ⟨rfl, hb⟩
  try go_simp
  have hHeld := hHeld.below hb
  refine hK.out _ _ hHeld (fun hHeld => ?_)
  clear hK K hb
  refine wpAnyH_ready (rs := [21]) (by kernel_rfl) (by simp) ?_
  refine AllReadyH.cons rfl (fun K hK => ?_) AllReadyH.nil
  go_simp
  refine (rfree_any m _ hm).mono ?_
  rintro e w9 ⟨rfl, hb⟩
  try go_simp
  have hHeld := hHeld.below hb
  refine hK.out _ _ hHeld (fun hHeld => ?_)
  clear hK K hb
  refine take_at 22 32 (.bool true) rfl rfl (by kernel_rfl) (by kernel_rfl) (by kernel_rfl) (fun _ _ _ h => h) (Or.inl ⟨by rfl, by intro W hW; clear hW; go_simp⟩) hHeld ?_
  simp only [Act.put, List.setIfInBounds_toArray, List.set_cons_zero, List.set_cons_succ]
  refine take_at 23 33 (.bool true) rfl rfl (by kernel_rfl) (by kernel_rfl) (by kernel_rfl) (fun _ _ _ h => h) (Or.inl ⟨by rfl, by intro W hW; clear hW; go_simp⟩) hHeld ?_
  simp only [Act.put, List.setIfInBounds_toArray, List.set_cons_zero, List.set_cons_succ]
  refine take_at 24 4 (.bool true) rfl rfl (by kernel_rfl) (by kernel_rfl) (by kernel_rfl) (fun _ _ _ h => h) (Or.inl ⟨by rfl, by intro W hW; clear hW; go_simp⟩) hHeld ?_
  simp only [Act.put, List.setIfInBounds_toArray, List.set_cons_zero, List.set_cons_succ]
  refine wpAnyH_done (by kernel_rfl) ?_ _
  refine NoPanic.normal ?_
  go_wp2
  go_ret
  exact ⟨rfl, hHeld.bel⟩
set_option maxHeartbeats 4000000 in
set_option maxRecDepth 100000 in
theorem ways_far (m : Mm.Gr) (a : Int) (w : World) (hm : Mm.Ok m) (ha : Far a) (hT : TabAt w) :
    Calls Tryd.prog 4 #[.agg (matA m), .int .i64 a] w fun e w' => e = .returned (.bool true) ∧ Below w.heap.size w w' := by
  have HTO := Lib.hid (turn_ok m)
  have HT := Lib.hid hT
  clear hT
  go_enter Tryd.func4, Tryd.ntmps4
  go_wp2_with fail
  refine (alive_any _ (tabAt_new HT.out _)).mono ?_
  rintro e w1 ⟨rfl, hb1⟩
  have H1 := Lib.hid ((matAt_new w m 24).below hb1)
  go_wp2_with (refine wpList_load_row rfl 24 (.tmp 2) rfl w.heap.size rfl 24 (matA m) (0, 0) _ H1.out Tryd.underlying24 rfl (rmatInfo m) ?_)
  refine (theirs_any m _).mono ?_
  rintro e w2 ⟨rfl, hb2⟩
  have HS := Lib.hid (st_first HT.out hb1 hb2)
  clear hb1 hb2 H1
  go_wp2_with (first
    | (refine wpList_store_row rfl 28 (.tmp 5) (.tmp 9) rfl w2.heap.size (matA m) rfl rfl 28 _ (heap_alloc_new _ _) (matInfo _) (by rw [matA_size]; rfl) (matA_one _) ?_; rw [World.setRow_alloc_new]))
  refine wp_region_noPanic ?_
  refine region_start (S := St w w2.heap.size m) 25 rfl (by kernel_rfl) (HS.out.drew) (fun hHeld => ?_)
  refine take_at 0 10 (.agg (matA m)) rfl rfl (by kernel_rfl) (by kernel_rfl) (by kernel_rfl) (fun _ _ _ h => h) (yields_mat (by rfl) 28 (.tmp 5) rfl (w2.heap.size) rfl 28 m (fun W h => h.theirs) Tryd.underlying28 (matInfo _)) hHeld ?_
  simp only [Act.put, List.setIfInBounds_toArray, List.set_cons_zero, List.set_cons_succ]
  refine take_at 1 11 (.int .i64 a) rfl rfl (by kernel_rfl) (by kernel_rfl) (by kernel_rfl) (fun _ _ _ h => h) (Or.inl ⟨by rfl, by intro W hW; clear hW; go_simp⟩) hHeld ?_
  simp only [Act.put, List.setIfInBounds_toArray, List.set_cons_zero, List.set_cons_succ]
  refine take_at 3 13 (.agg (matA m)) rfl rfl (by kernel_rfl) (by kernel_rfl) (by kernel_rfl) (fun _ _ _ h => h) (yields_mat (by rfl) 24 (.tmp 2) rfl (w.heap.size) rfl 24 m (fun W h => h.ours) Tryd.underlying24 (rmatInfo _)) hHeld ?_
  simp only [Act.put, List.setIfInBounds_toArray, List.set_cons_zero, List.set_cons_succ]
  refine take_at 4 14 (.int .i64 a) rfl rfl (by kernel_rfl) (by kernel_rfl) (by kernel_rfl) (fun _ _ _ h => h) (Or.inl ⟨by rfl, by intro W hW; clear hW; go_simp⟩) hHeld ?_
  simp only [Act.put, List.setIfInBounds_toArray, List.set_cons_zero, List.set_cons_succ]
  refine wpAnyH_ready (rs := [2]) (by kernel_rfl) (by simp) ?_
  refine AllReadyH.cons rfl (fun K hK => ?_) AllReadyH.nil
  go_simp
  refine (reach_far m a _ ha).mono ?_
  rintro e w3 ⟨rfl, hb⟩
  try go_simp
  have hHeld := hHeld.below hb
  refine hK.out _ _ hHeld (fun hHeld => ?_)
  clear hK K hb
  refine wpAnyH_ready (rs := [5]) (by kernel_rfl) (by simp) ?_
  refine AllReadyH.cons rfl (fun K hK => ?_) AllReadyH.nil
  go_simp
  refine (rreach_far m a _ hm ha).mono ?_
  rintro e w4 ⟨rfl, hb⟩
  try go_simp
  have hHeld := hHeld.below hb
  refine hK.out _ _ hHeld (fun hHeld => ?_)
  clear hK K hb
  refine take_at 6 16 (.bool true) rfl rfl (by kernel_rfl) (by kernel_rfl) (by kernel_rfl) (fun _ _ _ h => h) (Or.inl ⟨by rfl, by intro W hW; clear hW; go_simp⟩) hHeld ?_
  simp only [Act.put, List.setIfInBounds_toArray, List.set_cons_zero, List.set_cons_succ]
  refine take_at 7 17 (.bool true) rfl rfl (by kernel_rfl) (by kernel_rfl) (by kernel_rfl) (fun _ _ _ h => h) (Or.inl ⟨by rfl, by intro W hW; clear hW; go_simp⟩) hHeld ?_
  simp only [Act.put, List.setIfInBounds_toArray, List.set_cons_zero, List.set_cons_succ]
  refine take_at 8 18 (.agg (matA m)) rfl rfl (by kernel_rfl) (by kernel_rfl) (by kernel_rfl) (fun _ _ _ h => h) (yields_mat (by rfl) 28 (.tmp 5) rfl (w2.heap.size) rfl 28 m (fun W h => h.theirs) Tryd.underlying28 (matInfo _)) hHeld ?_
  simp only [Act.put, List.setIfInBounds_toArray, List.set_cons_zero, List.set_cons_succ]
  refine take_at 9 19 (.int .i64 a) rfl rfl (by kernel_rfl) (by kernel_rfl) (by kernel_rfl) (fun _ _ _ h => h) (Or.inl ⟨by rfl, by intro W hW; clear hW; go_simp⟩) hHeld ?_
  simp only [Act.put, List.setIfInBounds_toArray, List.set_cons_zero, List.set_cons_succ]
  refine take_at 11 21 (.agg (matA m)) rfl rfl (by kernel_rfl) (by kernel_rfl) (by kernel_rfl) (fun _ _ _ h => h) (yields_mat (by rfl) 24 (.tmp 2) rfl (w.heap.size) rfl 24 m (fun W h => h.ours) Tryd.underlying24 (rmatInfo _)) hHeld ?_
  simp only [Act.put, List.setIfInBounds_toArray, List.set_cons_zero, List.set_cons_succ]
  refine take_at 13 23 (.int .i64 a) rfl rfl (by kernel_rfl) (by kernel_rfl) (by kernel_rfl) (fun _ _ _ h => h) (Or.inl ⟨by rfl, by intro W hW; clear hW; go_simp⟩) hHeld ?_
  simp only [Act.put, List.setIfInBounds_toArray, List.set_cons_zero, List.set_cons_succ]
  refine wpAnyH_ready (rs := [10]) (by kernel_rfl) (by simp) ?_
  refine AllReadyH.cons rfl (fun K hK => ?_) AllReadyH.nil
  go_simp
  refine (back_far m a _ ha).mono ?_
  rintro e w5 ⟨rfl, hb⟩
  try go_simp
  have hHeld := hHeld.below hb
  refine hK.out _ _ hHeld (fun hHeld => ?_)
  clear hK K hb
  refine wpAnyH_ready (rs := [12]) (by kernel_rfl) (by simp) ?_
  refine AllReadyH.cons rfl (fun K hK => ?_) AllReadyH.nil
  go_simp
  refine (turn_any m _ hm).mono ?_
  rintro e w6 ⟨rfl, hb⟩
  try go_simp
  have hHeld := hHeld.below hb
  refine hK.out _ _ hHeld (fun hHeld => ?_)
  clear hK K hb
  refine wpAnyH_ready (rs := [14]) (by kernel_rfl) (by simp) ?_
  refine AllReadyH.cons rfl (fun K hK => ?_) AllReadyH.nil
  go_simp
  refine (rreach_far (turn m) a _ HTO.out ha).mono ?_
  rintro e w7 ⟨rfl, hb⟩
  try go_simp
  have hHeld := hHeld.below hb
  refine hK.out _ _ hHeld (fun hHeld => ?_)
  clear hK K hb
  refine take_at 15 25 (.bool true) rfl rfl (by kernel_rfl) (by kernel_rfl) (by kernel_rfl) (fun _ _ _ h => h) (Or.inl ⟨by rfl, by intro W hW; clear hW; go_simp⟩) hHeld ?_
  simp only [Act.put, List.setIfInBounds_toArray, List.set_cons_zero, List.set_cons_succ]
  refine take_at 16 26 (.bool true) rfl rfl (by kernel_rfl) (by kernel_rfl) (by kernel_rfl) (fun _ _ _ h => h) (Or.inl ⟨by rfl, by intro W hW; clear hW; go_simp⟩) hHeld ?_
  simp only [Act.put, List.setIfInBounds_toArray, List.set_cons_zero, List.set_cons_succ]
  refine take_at 17 27 (.bool true) rfl rfl (by kernel_rfl) (by kernel_rfl) (by kernel_rfl) (fun _ _ _ h => h) (Or.inl ⟨by rfl, by intro W hW; clear hW; go_simp⟩) hHeld ?_
  simp only [Act.put, List.setIfInBounds_toArray, List.set_cons_zero, List.set_cons_succ]
  refine take_at 18 28 (.agg (matA m)) rfl rfl (by kernel_rfl) (by kernel_rfl) (by kernel_rfl) (fun _ _ _ h => h) (yields_mat (by rfl) 28 (.tmp 5) rfl (w2.heap.size) rfl 28 m (fun W h => h.theirs) Tryd.underlying28 (matInfo _)) hHeld ?_
  simp only [Act.put, List.setIfInBounds_toArray, List.set_cons_zero, List.set_cons_succ]
  refine take_at 20 30 (.agg (matA m)) rfl rfl (by kernel_rfl) (by kernel_rfl) (by kernel_rfl) (fun _ _ _ h => h) (yields_mat (by rfl) 24 (.tmp 2) rfl (w.heap.size) rfl 24 m (fun W h => h.ours) Tryd.underlying24 (rmatInfo _)) hHeld ?_
  simp only [Act.put, List.setIfInBounds_toArray, List.set_cons_zero, List.set_cons_succ]
  refine wpAnyH_ready (rs := [19]) (by kernel_rfl) (by simp) ?_
  refine AllReadyH.cons rfl (fun K hK => ?_) AllReadyH.nil
  go_simp
  refine (free_any m _ hm hHeld.tab).mono ?_
  rintro e w8 ⟨rfl, hb⟩
  try go_simp
  have hHeld := hHeld.below hb
  refine hK.out _ _ hHeld (fun hHeld => ?_)
  clear hK K hb
  refine wpAnyH_ready (rs := [21]) (by kernel_rfl) (by simp) ?_
  refine AllReadyH.cons rfl (fun K hK => ?_) AllReadyH.nil
  go_simp
  refine (rfree_any m _ hm).mono ?_
  rintro e w9 ⟨rfl, hb⟩
  try go_simp
  have hHeld := hHeld.below hb
  refine hK.out _ _ hHeld (fun hHeld => ?_)
  clear hK K hb
  refine take_at 22 32 (.bool true) rfl rfl (by kernel_rfl) (by kernel_rfl) (by kernel_rfl) (fun _ _ _ h => h) (Or.inl ⟨by rfl, by intro W hW; clear hW; go_simp⟩) hHeld ?_
  simp only [Act.put, List.setIfInBounds_toArray, List.set_cons_zero, List.set_cons_succ]
  refine take_at 23 33 (.bool true) rfl rfl (by kernel_rfl) (by kernel_rfl) (by kernel_rfl) (fun _ _ _ h => h) (Or.inl ⟨by rfl, by intro W hW; clear hW; go_simp⟩) hHeld ?_
  simp only [Act.put, List.setIfInBounds_toArray, List.set_cons_zero, List.set_cons_succ]
  refine take_at 24 4 (.bool true) rfl rfl (by kernel_rfl) (by kernel_rfl) (by kernel_rfl) (fun _ _ _ h => h) (Or.inl ⟨by rfl, by intro W hW; clear hW; go_simp⟩) hHeld ?_
  simp only [Act.put, List.setIfInBounds_toArray, List.set_cons_zero, List.set_cons_succ]
  refine wpAnyH_done (by kernel_rfl) ?_ _
  refine NoPanic.normal ?_
  go_wp2
  go_ret
  exact ⟨rfl, hHeld.bel⟩
theorem matWays_any (m : Mm.Gr) (a : Int) (w : World) (hm : Mm.Ok m) (h0 : -9223372036854775808 ≤ a) (h1 : a ≤ 9223372036854775807) (hT : TabAt w) :
    Calls Tryd.prog 4 #[.agg (matA m), .int .i64 a] w fun e w' => e = .returned (.bool true) ∧ Below w.heap.size w w' := by
  by_cases hn : a < 0 ∨ 32 ≤ a
  · exact ways_far m a w hm ⟨⟨h0, h1⟩, hn⟩ hT
  · obtain ⟨k, rfl⟩ := Int.eq_ofNat_of_zero_le (by omega : 0 ≤ a)
    exact ways_in m k w hm (by omega) hT
end Go.Proofs.YtjciikdhjgekgaaDoor
