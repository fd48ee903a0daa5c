/-
  The walk of MatThrough.
-/
import Derived.Test.YtjciikdhjgekgaaDoorMatLaw
namespace Go.Proofs.YtjciikdhjgekgaaDoor
open Go.RowKit
attribute [local go_sem ↓] Go.wp_at_zero Go.wp_at_succ
theorem none_over {x y : Nat} (hx : x < 4294967296) (hy : y < 4294967296) (h : ∀ j, x.testBit j = true → y.testBit j = true) : bits .andNot .u64 ((x : Nat) : Int) ((y : Nat) : Int) = 0 := by
  rw [u64_andNot_nat x y (by omega) (by omega)]
  have : x &&& (18446744073709551615 - y) = 0 := by
    apply Sm.ext; intro j
    rw [Mm.less_all (by omega) (by omega), Nat.zero_testBit]
    cases hb : x.testBit j
    · rfl
    · rw [h j hb]; rfl
  rw [this]; rfl
theorem reach_val (m : Mm.Gr) (a R : Nat) (w : World) (hm : Mm.Ok m) (ha : a < 32) (hT : TabAt w) (h : Mm.ways (Mm.E m) a = R) :
    Calls Tryd.prog 23 #[.agg (matA m), .int .i64 (a : Nat)] w fun e w' => e = .returned (.int .u64 (R : Nat)) ∧ Below w.heap.size w w' := by
  have := reach_in m a w hm ha hT
  rw [h] at this; exact this
theorem reach_none (m : Mm.Gr) (a : Nat) (w : World) (hm : Mm.Ok m) (ha : a < 32) (hT : TabAt w) (h : Mm.ways (Mm.E m) a = 0) :
    Calls Tryd.prog 23 #[.agg (matA m), .int .i64 (a : Nat)] w fun e w' => e = .returned (.int .u64 0) ∧ Below w.heap.size w w' := by
  have := reach_in m a w hm ha hT
  rw [h] at this; exact this
theorem back_val (m : Mm.Gr) (a R : Nat) (w : World) (hm : Mm.Ok m) (ha : a < 32) (hT : TabAt w) (h : Mm.ways (fun i j => Mm.E m j i) a = R) :
    Calls Tryd.prog 25 #[.agg (matA m), .int .i64 (a : Nat)] w fun e w' => e = .returned (.int .u64 (R : Nat)) ∧ Below w.heap.size w w' := by
  have := back_in m a w hm ha hT
  rw [h] at this; exact this
theorem back_none (m : Mm.Gr) (a : Nat) (w : World) (hm : Mm.Ok m) (ha : a < 32) (hT : TabAt w) (h : Mm.ways (fun i j => Mm.E m j i) a = 0) :
    Calls Tryd.prog 25 #[.agg (matA m), .int .i64 (a : Nat)] w fun e w' => e = .returned (.int .u64 0) ∧ Below w.heap.size w w' := by
  have := back_in m a w hm ha hT
  rw [h] at this; exact this
theorem outs_val (m : Mm.Gr) (a R : Nat) (w : World) (hm : Mm.Ok m) (ha : a < 32) (h : Mm.outs m a = R) :
    Calls Tryd.prog 19 #[.agg (matA m), .int .i64 (a : Nat)] w fun e w' => e = .returned (.int .u64 (R : Nat)) ∧ Below w.heap.size w w' := by
  have := outs_in m a w hm ha
  rw [h] at this; exact this
theorem ways_none {e : Nat → Nat → Prop} {a : Nat} (h : ∀ j, ¬ Mm.W e a j) : Mm.ways e a = 0 := by
  apply Sm.ext; intro j
  rw [Nat.zero_testBit]
  cases hb : (Mm.ways e a).testBit j
  · rfl
  · exact absurd ((Mm.ways_test _ _ _).1 hb).2 (h j)
set_option maxHeartbeats 4000000 in
set_option maxRecDepth 100000 in
theorem through_false (m : Mm.Gr) (a b x y r s q u v : Nat) (w : World) (hm : Mm.Ok m) (ha : a < 256) (hb : b < 256) (hx : Int.tmod (a : Int) 32 = ((x : Nat) : Int)) (hy : Int.tmod (b : Int) 32 = ((y : Nat) : Int)) (hx32 : x < 32) (hy32 : y < 32) (hT : TabAt w)
    (hr : Go.RowKit.Hid (Mm.ways (Mm.E m) x = r)) (hs : Go.RowKit.Hid (Mm.ways (Mm.E m) y = s)) (hq : Go.RowKit.Hid (Mm.ways (fun i j => Mm.E m j i) y = q)) (hu : Go.RowKit.Hid (Mm.outs m x = u)) (hv : Go.RowKit.Hid (Mm.ways (Mm.E (Mm.cut m x)) y = v))
    (hrl : r < 18446744073709551616) (hql : q < 18446744073709551616)
    (hry : Go.RowKit.Hid (r.testBit y = false)) (hqx : Go.RowKit.Hid (q.testBit x = false)) (k2 : bits .andNot .u64 ((u : Nat) : Int) ((r : Nat) : Int) = 0) (k3 : bits .andNot .u64 ((v : Nat) : Int) ((s : Nat) : Int) = 0)
    (hc1 : Go.RowKit.Hid (Mm.ways (Mm.E (Mm.cut m x)) x = 0)) (hc2 : Go.RowKit.Hid (Mm.ways (fun i j => Mm.E (Mm.cut m x) j i) x = 0)) :
    Calls Tryd.prog 5 #[.agg (matA m), .int .u8 (a : Nat), .int .u8 (b : Nat)] w fun e w' => e = .returned (.bool true) ∧ Below w.heap.size w w' := by
  have HO := Lib.hid (Mm.cut_ok x hm)
  have HT := Lib.hid hT
  clear hT
  go_enter Tryd.func5, Tryd.ntmps5
  go_wp2_with fail
  refine (alive_any _ (tabAt_new HT.out _)).mono ?_
  rintro e w1 ⟨rfl, hb1⟩
  have H1 := Lib.hid ((matAt_new w m 24).below hb1)
  go_wp2_with (refine wpList_load_row rfl 24 (.tmp 3) rfl w.heap.size rfl 24 (matA m) (0, 0) _ H1.out Tryd.underlying24 rfl (rmatInfo m) ?_)
  refine (theirs_any m _).mono ?_
  rintro e w2 ⟨rfl, hb2⟩
  have HS := Lib.hid (st_first HT.out hb1 hb2)
  clear hb1 hb2 H1
  go_wp2_with (first
    | (refine wpList_store_row rfl 28 (.tmp 7) (.tmp 16) rfl w2.heap.size (matA m) rfl rfl 28 _ (heap_alloc_new _ _) (matInfo _) (by rw [matA_size]; rfl) (matA_one _) ?_; rw [World.setRow_alloc_new]))
  refine wp_region_noPanic ?_
  refine region_start (S := St w w2.heap.size m) 8 rfl (by kernel_rfl) (HS.out.drew) (fun hHeld => ?_)
  refine take_at 0 23 (.agg (matA m)) rfl rfl (by kernel_rfl) (by kernel_rfl) (by kernel_rfl) (fun _ _ _ h => h) (yields_mat (by rfl) 28 (.tmp 7) rfl (w2.heap.size) rfl 28 m (fun W h => h.theirs) Tryd.underlying28 (matInfo _)) hHeld ?_
  simp only [Act.put, List.setIfInBounds_toArray, List.set_cons_zero, List.set_cons_succ]
  refine take_at 1 24 (.int .i64 (x : Nat)) rfl rfl (by kernel_rfl) (by kernel_rfl) (by kernel_rfl) (fun _ _ _ h => h) (Or.inl ⟨by rfl, by intro W hW; clear hW; go_simp⟩) hHeld ?_
  simp only [Act.put, List.setIfInBounds_toArray, List.set_cons_zero, List.set_cons_succ]
  refine take_at 3 26 (.agg (matA m)) rfl rfl (by kernel_rfl) (by kernel_rfl) (by kernel_rfl) (fun _ _ _ h => h) (yields_mat (by rfl) 28 (.tmp 7) rfl (w2.heap.size) rfl 28 m (fun W h => h.theirs) Tryd.underlying28 (matInfo _)) hHeld ?_
  simp only [Act.put, List.setIfInBounds_toArray, List.set_cons_zero, List.set_cons_succ]
  refine take_at 4 27 (.int .i64 (y : Nat)) rfl rfl (by kernel_rfl) (by kernel_rfl) (by kernel_rfl) (fun _ _ _ h => h) (Or.inl ⟨by rfl, by intro W hW; clear hW; go_simp⟩) hHeld ?_
  simp only [Act.put, List.setIfInBounds_toArray, List.set_cons_zero, List.set_cons_succ]
  refine wpAnyH_ready (rs := [2]) (by kernel_rfl) (by simp) ?_
  refine AllReadyH.cons rfl (fun K hK => ?_) AllReadyH.nil
  go_simp
  refine (reach_val m x r _ hm hx32 hHeld.tab hr.out).mono ?_
  rintro e w3 ⟨rfl, hbb⟩
  try go_simp
  have hHeld := hHeld.below hbb
  refine hK.out _ _ hHeld (fun hHeld => ?_)
  clear hK K hbb
  refine wpAnyH_ready (rs := [5]) (by kernel_rfl) (by simp) ?_
  refine AllReadyH.cons rfl (fun K hK => ?_) AllReadyH.nil
  go_simp
  refine (reach_val m y s _ hm hy32 hHeld.tab hs.out).mono ?_
  rintro e w4 ⟨rfl, hbb⟩
  try go_simp
  have hHeld := hHeld.below hbb
  refine hK.out _ _ hHeld (fun hHeld => ?_)
  clear hK K hbb
  refine take_at 6 10 (.int .u64 (r : Nat)) rfl rfl (by kernel_rfl) (by kernel_rfl) (by kernel_rfl) (fun _ _ _ h => h) (Or.inl ⟨by rfl, by intro W hW; clear hW; go_simp⟩) hHeld ?_
  simp only [Act.put, List.setIfInBounds_toArray, List.set_cons_zero, List.set_cons_succ]
  refine take_at 7 11 (.int .u64 (s : Nat)) rfl rfl (by kernel_rfl) (by kernel_rfl) (by kernel_rfl) (fun _ _ _ h => h) (Or.inl ⟨by rfl, by intro W hW; clear hW; go_simp⟩) hHeld ?_
  simp only [Act.put, List.setIfInBounds_toArray, List.set_cons_zero, List.set_cons_succ]
  refine wpAnyH_done (by kernel_rfl) ?_ _
  refine NoPanic.normal ?_
  have HS5 := Lib.hid hHeld
  clear hHeld HS
  go_wp2_with fail
  refine wp_region_noPanic ?_
  refine region_start (S := St w w2.heap.size m) 28 rfl (by kernel_rfl) (HS5.out.drew) (fun hHeld => ?_)
  refine take_at 0 29 (.int .u64 (r : Nat)) rfl rfl (by kernel_rfl) (by kernel_rfl) (by kernel_rfl) (fun _ _ _ h => h) (Or.inl ⟨by rfl, by intro W hW; clear hW; go_simp⟩) hHeld ?_
  simp only [Act.put, List.setIfInBounds_toArray, List.set_cons_zero, List.set_cons_succ]
  refine take_at 1 30 (.int .i64 (y : Nat)) rfl rfl (by kernel_rfl) (by kernel_rfl) (by kernel_rfl) (fun _ _ _ h => h) (Or.inl ⟨by rfl, by intro W hW; clear hW; go_simp⟩) hHeld ?_
  simp only [Act.put, List.setIfInBounds_toArray, List.set_cons_zero, List.set_cons_succ]
  refine wpAnyH_ready (rs := [2]) (by kernel_rfl) (by simp) ?_
  refine AllReadyH.cons rfl (fun K hK => ?_) AllReadyH.nil
  go_simp
  refine (has_val r y false _ hrl (by omega) hry.out).mono ?_
  rintro e w' ⟨rfl, rfl⟩
  try go_simp
  refine hK.out _ _ hHeld (fun hHeld => ?_)
  clear hK K
  refine take_at 3 32 (.bool false) rfl rfl (by kernel_rfl) (by kernel_rfl) (by kernel_rfl) (fun _ _ _ h => h) (Or.inl ⟨by rfl, by intro W hW; clear hW; go_simp⟩) hHeld ?_
  simp only [Act.put, List.setIfInBounds_toArray, List.set_cons_zero, List.set_cons_succ]
  refine take_at 4 33 undef rfl rfl (by kernel_rfl) (by kernel_rfl) (by kernel_rfl) (fun _ _ _ h => h) (Or.inr ⟨by rfl, rfl⟩) hHeld ?_
  simp only [Act.put, List.setIfInBounds_toArray, List.set_cons_zero, List.set_cons_succ]
  refine take_at 5 34 undef rfl rfl (by kernel_rfl) (by kernel_rfl) (by kernel_rfl) (fun _ _ _ h => h) (Or.inr ⟨by rfl, rfl⟩) hHeld ?_
  simp only [Act.put, List.setIfInBounds_toArray, List.set_cons_zero, List.set_cons_succ]
  refine take_at 6 35 undef rfl rfl (by kernel_rfl) (by kernel_rfl) (by kernel_rfl) (fun _ _ _ h => h) (Or.inr ⟨by rfl, rfl⟩) hHeld ?_
  simp only [Act.put, List.setIfInBounds_toArray, List.set_cons_zero, List.set_cons_succ]
  refine take_at 7 36 undef rfl rfl (by kernel_rfl) (by kernel_rfl) (by kernel_rfl) (fun _ _ _ h => h) (Or.inr ⟨by rfl, rfl⟩) hHeld ?_
  simp only [Act.put, List.setIfInBounds_toArray, List.set_cons_zero, List.set_cons_succ]
  refine take_at 8 37 (.bool false) rfl rfl (by kernel_rfl) (by kernel_rfl) (by kernel_rfl) (fun _ _ _ h => h) (Or.inl ⟨by rfl, by intro W hW; clear hW; go_simp⟩) hHeld ?_
  simp only [Act.put, List.setIfInBounds_toArray, List.set_cons_zero, List.set_cons_succ]
  refine take_at 9 38 (.bool false) rfl rfl (by kernel_rfl) (by kernel_rfl) (by kernel_rfl) (fun _ _ _ h => h) (Or.inl ⟨by rfl, by intro W hW; clear hW; go_simp⟩) hHeld ?_
  simp only [Act.put, List.setIfInBounds_toArray, List.set_cons_zero, List.set_cons_succ]
  refine take_at 10 39 (.int .u64 (r : Nat)) rfl rfl (by kernel_rfl) (by kernel_rfl) (by kernel_rfl) (fun _ _ _ h => h) (Or.inl ⟨by rfl, by intro W hW; clear hW; go_simp⟩) hHeld ?_
  simp only [Act.put, List.setIfInBounds_toArray, List.set_cons_zero, List.set_cons_succ]
  refine take_at 11 40 (.int .i64 (y : Nat)) rfl rfl (by kernel_rfl) (by kernel_rfl) (by kernel_rfl) (fun _ _ _ h => h) (Or.inl ⟨by rfl, by intro W hW; clear hW; go_simp⟩) hHeld ?_
  simp only [Act.put, List.setIfInBounds_toArray, List.set_cons_zero, List.set_cons_succ]
  refine take_at 13 42 (.agg (matA m)) rfl rfl (by kernel_rfl) (by kernel_rfl) (by kernel_rfl) (fun _ _ _ h => h) (yields_mat (by rfl) 28 (.tmp 7) rfl (w2.heap.size) rfl 28 m (fun W h => h.theirs) Tryd.underlying28 (matInfo _)) hHeld ?_
  simp only [Act.put, List.setIfInBounds_toArray, List.set_cons_zero, List.set_cons_succ]
  refine take_at 14 43 (.int .i64 (y : Nat)) rfl rfl (by kernel_rfl) (by kernel_rfl) (by kernel_rfl) (fun _ _ _ h => h) (Or.inl ⟨by rfl, by intro W hW; clear hW; go_simp⟩) hHeld ?_
  simp only [Act.put, List.setIfInBounds_toArray, List.set_cons_zero, List.set_cons_succ]
  refine take_at 16 45 (.int .i64 (x : Nat)) rfl rfl (by kernel_rfl) (by kernel_rfl) (by kernel_rfl) (fun _ _ _ h => h) (Or.inl ⟨by rfl, by intro W hW; clear hW; go_simp⟩) hHeld ?_
  simp only [Act.put, List.setIfInBounds_toArray, List.set_cons_zero, List.set_cons_succ]
  refine wpAnyH_ready (rs := [12]) (by kernel_rfl) (by simp) ?_
  refine AllReadyH.cons rfl (fun K hK => ?_) AllReadyH.nil
  go_simp
  refine (has_val r y false _ hrl (by omega) hry.out).mono ?_
  rintro e w' ⟨rfl, rfl⟩
  try go_simp
  refine hK.out _ _ hHeld (fun hHeld => ?_)
  clear hK K
  refine wpAnyH_ready (rs := [15]) (by kernel_rfl) (by simp) ?_
  refine AllReadyH.cons rfl (fun K hK => ?_) AllReadyH.nil
  go_simp
  refine (back_val m y q _ hm hy32 hHeld.tab hq.out).mono ?_
  rintro e w6 ⟨rfl, hbb⟩
  try go_simp
  have hHeld := hHeld.below hbb
  refine hK.out _ _ hHeld (fun hHeld => ?_)
  clear hK K hbb
  refine wpAnyH_ready (rs := [17]) (by kernel_rfl) (by simp) ?_
  refine AllReadyH.cons rfl (fun K hK => ?_) AllReadyH.nil
  go_simp
  refine (has_val q x false _ hql (by omega) hqx.out).mono ?_
  rintro e w' ⟨rfl, rfl⟩
  try go_simp
  refine hK.out _ _ hHeld (fun hHeld => ?_)
  clear hK K
  refine take_at 18 47 (.bool false) rfl rfl (by kernel_rfl) (by kernel_rfl) (by kernel_rfl) (fun _ _ _ h => h) (Or.inl ⟨by rfl, by intro W hW; clear hW; go_simp⟩) hHeld ?_
  simp only [Act.put, List.setIfInBounds_toArray, List.set_cons_zero, List.set_cons_succ]
  refine take_at 19 48 (.bool false) rfl rfl (by kernel_rfl) (by kernel_rfl) (by kernel_rfl) (fun _ _ _ h => h) (Or.inl ⟨by rfl, by intro W hW; clear hW; go_simp⟩) hHeld ?_
  simp only [Act.put, List.setIfInBounds_toArray, List.set_cons_zero, List.set_cons_succ]
  refine take_at 20 49 (.bool false) rfl rfl (by kernel_rfl) (by kernel_rfl) (by kernel_rfl) (fun _ _ _ h => h) (Or.inl ⟨by rfl, by intro W hW; clear hW; go_simp⟩) hHeld ?_
  simp only [Act.put, List.setIfInBounds_toArray, List.set_cons_zero, List.set_cons_succ]
  refine take_at 21 50 (.agg (matA m)) rfl rfl (by kernel_rfl) (by kernel_rfl) (by kernel_rfl) (fun _ _ _ h => h) (yields_mat (by rfl) 28 (.tmp 7) rfl (w2.heap.size) rfl 28 m (fun W h => h.theirs) Tryd.underlying28 (matInfo _)) hHeld ?_
  simp only [Act.put, List.setIfInBounds_toArray, List.set_cons_zero, List.set_cons_succ]
  refine take_at 22 51 (.int .i64 (x : Nat)) rfl rfl (by kernel_rfl) (by kernel_rfl) (by kernel_rfl) (fun _ _ _ h => h) (Or.inl ⟨by rfl, by intro W hW; clear hW; go_simp⟩) hHeld ?_
  simp only [Act.put, List.setIfInBounds_toArray, List.set_cons_zero, List.set_cons_succ]
  refine take_at 24 53 (.int .u64 (r : Nat)) rfl rfl (by kernel_rfl) (by kernel_rfl) (by kernel_rfl) (fun _ _ _ h => h) (Or.inl ⟨by rfl, by intro W hW; clear hW; go_simp⟩) hHeld ?_
  simp only [Act.put, List.setIfInBounds_toArray, List.set_cons_zero, List.set_cons_succ]
  refine wpAnyH_ready (rs := [23]) (by kernel_rfl) (by simp) ?_
  refine AllReadyH.cons rfl (fun K hK => ?_) AllReadyH.nil
  go_simp
  refine (outs_val m x u _ hm hx32 hu.out).mono ?_
  rintro e w7 ⟨rfl, hbb⟩
  try go_simp
  have hHeld := hHeld.below hbb
  refine hK.out _ _ hHeld (fun hHeld => ?_)
  clear hK K hbb
  refine take_at 25 54 (.int .u64 0) rfl rfl (by kernel_rfl) (by kernel_rfl) (by kernel_rfl) (fun _ _ _ h => h) (Or.inl ⟨by rfl, by intro W hW; clear hW; go_simp⟩) hHeld ?_
  simp only [Act.put, List.setIfInBounds_toArray, List.set_cons_zero, List.set_cons_succ]
  refine take_at 26 55 (.bool false) rfl rfl (by kernel_rfl) (by kernel_rfl) (by kernel_rfl) (fun _ _ _ h => h) (Or.inl ⟨by rfl, by intro W hW; clear hW; go_simp⟩) hHeld ?_
  simp only [Act.put, List.setIfInBounds_toArray, List.set_cons_zero, List.set_cons_succ]
  refine take_at 27 56 (.bool false) rfl rfl (by kernel_rfl) (by kernel_rfl) (by kernel_rfl) (fun _ _ _ h => h) (Or.inl ⟨by rfl, by intro W hW; clear hW; go_simp⟩) hHeld ?_
  simp only [Act.put, List.setIfInBounds_toArray, List.set_cons_zero, List.set_cons_succ]
  refine wpAnyH_done (by kernel_rfl) ?_ _
  refine NoPanic.normal ?_
  have HS7 := Lib.hid hHeld
  clear hHeld HS5
  go_wp2_with (first
    | (refine wpList_load_row rfl 28 (.tmp 7) rfl w2.heap.size rfl 28 (matA m) (0, 0) _ HS7.out.theirs Tryd.underlying28 rfl (matInfo _) ?_))
  refine (cut_in m x _ hm hx32).mono ?_
  rintro e w8 ⟨rfl, hb8⟩
  have HS8 := Lib.hid ((HS7.out.below hb8).alloc (.cells (matA (Mm.cut m x)) 28))
  have HN8 := Lib.hid (matAt_new w8 (Mm.cut m x) 28)
  clear hb8 HS7
  go_wp2_with (first
    | (refine wpList_store_row rfl 28 (.tmp 12) (.tmp 59) rfl w8.heap.size (matA (Mm.cut m x)) rfl rfl 28 _ (heap_alloc_new _ _) (matInfo _) (by rw [matA_size]; rfl) (matA_one _) ?_; rw [World.setRow_alloc_new])
    | (refine wpList_load_row rfl 28 (.tmp 12) rfl w8.heap.size rfl 28 (matA (Mm.cut m x)) (0, 0) _ HN8.out Tryd.underlying28 rfl (matInfo _) ?_))
  refine (reach_none (Mm.cut m x) x _ HO.out hx32 HS8.out.tab hc1.out).mono ?_
  rintro e w9 ⟨rfl, hb9⟩
  have HS9 := Lib.hid (HS8.out.below hb9)
  have HN9 := Lib.hid (HN8.out.below hb9)
  clear hb9 HS8 HN8
  go_wp2_with (first
    | (refine wpList_load_want rfl 28 (.tmp 12) rfl w8.heap.size rfl 28 (matA (Mm.cut m x)) (0, 0) _ _ HN9.out Tryd.underlying28 (matInfo _) ?_))
  refine (back_none (Mm.cut m x) x _ HO.out hx32 HS9.out.tab hc2.out).mono ?_
  rintro e w10 ⟨rfl, hb10⟩
  have HS10 := Lib.hid (HS9.out.below hb10)
  have HN10 := Lib.hid (HN9.out.below hb10)
  clear hb10 HS9 HN9
  go_wp2_with (first
    | (refine wpList_load_want rfl 28 (.tmp 12) rfl w8.heap.size rfl 28 (matA (Mm.cut m x)) (0, 0) _ _ HN10.out Tryd.underlying28 (matInfo _) ?_))
  refine (reach_val (Mm.cut m x) y v _ HO.out hy32 HS10.out.tab hv.out).mono ?_
  rintro e w11 ⟨rfl, hb11⟩
  have HS11 := Lib.hid (HS10.out.below hb11)
  clear hb11 HS10 HN10
  go_wp2
  go_ret
  exact ⟨rfl, HS11.out.bel⟩
set_option maxHeartbeats 4000000 in
set_option maxRecDepth 100000 in
theorem through_true (m : Mm.Gr) (a b x y r s q u v : Nat) (w : World) (hm : Mm.Ok m) (ha : a < 256) (hb : b < 256) (hx : Int.tmod (a : Int) 32 = ((x : Nat) : Int)) (hy : Int.tmod (b : Int) 32 = ((y : Nat) : Int)) (hx32 : x < 32) (hy32 : y < 32) (hT : TabAt w)
    (hr : Go.RowKit.Hid (Mm.ways (Mm.E m) x = r)) (hs : Go.RowKit.Hid (Mm.ways (Mm.E m) y = s)) (hq : Go.RowKit.Hid (Mm.ways (fun i j => Mm.E m j i) y = q)) (hu : Go.RowKit.Hid (Mm.outs m x = u)) (hv : Go.RowKit.Hid (Mm.ways (Mm.E (Mm.cut m x)) y = v))
    (hrl : r < 18446744073709551616) (hql : q < 18446744073709551616)
    (hry : Go.RowKit.Hid (r.testBit y = true)) (hqx : Go.RowKit.Hid (q.testBit x = true)) (k1 : bits .andNot .u64 ((s : Nat) : Int) ((r : Nat) : Int) = 0) (k2 : bits .andNot .u64 ((u : Nat) : Int) ((r : Nat) : Int) = 0) (k3 : bits .andNot .u64 ((v : Nat) : Int) ((s : Nat) : Int) = 0)
    (hc1 : Go.RowKit.Hid (Mm.ways (Mm.E (Mm.cut m x)) x = 0)) (hc2 : Go.RowKit.Hid (Mm.ways (fun i j => Mm.E (Mm.cut m x) j i) x = 0)) :
    Calls Tryd.prog 5 #[.agg (matA m), .int .u8 (a : Nat), .int .u8 (b : Nat)] w fun e w' => e = .returned (.bool true) ∧ Below w.heap.size w w' := by
  have HO := Lib.hid (Mm.cut_ok x hm)
  have HT := Lib.hid hT
  clear hT
  go_enter Tryd.func5, Tryd.ntmps5
  go_wp2_with fail
  refine (alive_any _ (tabAt_new HT.out _)).mono ?_
  rintro e w1 ⟨rfl, hb1⟩
  have H1 := Lib.hid ((matAt_new w m 24).below hb1)
  go_wp2_with (refine wpList_load_row rfl 24 (.tmp 3) rfl w.heap.size rfl 24 (matA m) (0, 0) _ H1.out Tryd.underlying24 rfl (rmatInfo m) ?_)
  refine (theirs_any m _).mono ?_
  rintro e w2 ⟨rfl, hb2⟩
  have HS := Lib.hid (st_first HT.out hb1 hb2)
  clear hb1 hb2 H1
  go_wp2_with (first
    | (refine wpList_store_row rfl 28 (.tmp 7) (.tmp 16) rfl w2.heap.size (matA m) rfl rfl 28 _ (heap_alloc_new _ _) (matInfo _) (by rw [matA_size]; rfl) (matA_one _) ?_; rw [World.setRow_alloc_new]))
  refine wp_region_noPanic ?_
  refine region_start (S := St w w2.heap.size m) 8 rfl (by kernel_rfl) (HS.out.drew) (fun hHeld => ?_)
  refine take_at 0 23 (.agg (matA m)) rfl rfl (by kernel_rfl) (by kernel_rfl) (by kernel_rfl) (fun _ _ _ h => h) (yields_mat (by rfl) 28 (.tmp 7) rfl (w2.heap.size) rfl 28 m (fun W h => h.theirs) Tryd.underlying28 (matInfo _)) hHeld ?_
  simp only [Act.put, List.setIfInBounds_toArray, List.set_cons_zero, List.set_cons_succ]
  refine take_at 1 24 (.int .i64 (x : Nat)) rfl rfl (by kernel_rfl) (by kernel_rfl) (by kernel_rfl) (fun _ _ _ h => h) (Or.inl ⟨by rfl, by intro W hW; clear hW; go_simp⟩) hHeld ?_
  simp only [Act.put, List.setIfInBounds_toArray, List.set_cons_zero, List.set_cons_succ]
  refine take_at 3 26 (.agg (matA m)) rfl rfl (by kernel_rfl) (by kernel_rfl) (by kernel_rfl) (fun _ _ _ h => h) (yields_mat (by rfl) 28 (.tmp 7) rfl (w2.heap.size) rfl 28 m (fun W h => h.theirs) Tryd.underlying28 (matInfo _)) hHeld ?_
  simp only [Act.put, List.setIfInBounds_toArray, List.set_cons_zero, List.set_cons_succ]
  refine take_at 4 27 (.int .i64 (y : Nat)) rfl rfl (by kernel_rfl) (by kernel_rfl) (by kernel_rfl) (fun _ _ _ h => h) (Or.inl ⟨by rfl, by intro W hW; clear hW; go_simp⟩) hHeld ?_
  simp only [Act.put, List.setIfInBounds_toArray, List.set_cons_zero, List.set_cons_succ]
  refine wpAnyH_ready (rs := [2]) (by kernel_rfl) (by simp) ?_
  refine AllReadyH.cons rfl (fun K hK => ?_) AllReadyH.nil
  go_simp
  refine (reach_val m x r _ hm hx32 hHeld.tab hr.out).mono ?_
  rintro e w3 ⟨rfl, hbb⟩
  try go_simp
  have hHeld := hHeld.below hbb
  refine hK.out _ _ hHeld (fun hHeld => ?_)
  clear hK K hbb
  refine wpAnyH_ready (rs := [5]) (by kernel_rfl) (by simp) ?_
  refine AllReadyH.cons rfl (fun K hK => ?_) AllReadyH.nil
  go_simp
  refine (reach_val m y s _ hm hy32 hHeld.tab hs.out).mono ?_
  rintro e w4 ⟨rfl, hbb⟩
  try go_simp
  have hHeld := hHeld.below hbb
  refine hK.out _ _ hHeld (fun hHeld => ?_)
  clear hK K hbb
  refine take_at 6 10 (.int .u64 (r : Nat)) rfl rfl (by kernel_rfl) (by kernel_rfl) (by kernel_rfl) (fun _ _ _ h => h) (Or.inl ⟨by rfl, by intro W hW; clear hW; go_simp⟩) hHeld ?_
  simp only [Act.put, List.setIfInBounds_toArray, List.set_cons_zero, List.set_cons_succ]
  refine take_at 7 11 (.int .u64 (s : Nat)) rfl rfl (by kernel_rfl) (by kernel_rfl) (by kernel_rfl) (fun _ _ _ h => h) (Or.inl ⟨by rfl, by intro W hW; clear hW; go_simp⟩) hHeld ?_
  simp only [Act.put, List.setIfInBounds_toArray, List.set_cons_zero, List.set_cons_succ]
  refine wpAnyH_done (by kernel_rfl) ?_ _
  refine NoPanic.normal ?_
  have HS5 := Lib.hid hHeld
  clear hHeld HS
  go_wp2_with fail
  refine wp_region_noPanic ?_
  refine region_start (S := St w w2.heap.size m) 28 rfl (by kernel_rfl) (HS5.out.drew) (fun hHeld => ?_)
  refine take_at 0 29 (.int .u64 (r : Nat)) rfl rfl (by kernel_rfl) (by kernel_rfl) (by kernel_rfl) (fun _ _ _ h => h) (Or.inl ⟨by rfl, by intro W hW; clear hW; go_simp⟩) hHeld ?_
  simp only [Act.put, List.setIfInBounds_toArray, List.set_cons_zero, List.set_cons_succ]
  refine take_at 1 30 (.int .i64 (y : Nat)) rfl rfl (by kernel_rfl) (by kernel_rfl) (by kernel_rfl) (fun _ _ _ h => h) (Or.inl ⟨by rfl, by intro W hW; clear hW; go_simp⟩) hHeld ?_
  simp only [Act.put, List.setIfInBounds_toArray, List.set_cons_zero, List.set_cons_succ]
  refine wpAnyH_ready (rs := [2]) (by kernel_rfl) (by simp) ?_
  refine AllReadyH.cons rfl (fun K hK => ?_) AllReadyH.nil
  go_simp
  refine (has_val r y true _ hrl (by omega) hry.out).mono ?_
  rintro e w' ⟨rfl, rfl⟩
  try go_simp
  refine hK.out _ _ hHeld (fun hHeld => ?_)
  clear hK K
  refine take_at 3 32 (.bool true) rfl rfl (by kernel_rfl) (by kernel_rfl) (by kernel_rfl) (fun _ _ _ h => h) (Or.inl ⟨by rfl, by intro W hW; clear hW; go_simp⟩) hHeld ?_
  simp only [Act.put, List.setIfInBounds_toArray, List.set_cons_zero, List.set_cons_succ]
  refine take_at 4 33 (.int .u64 (s : Nat)) rfl rfl (by kernel_rfl) (by kernel_rfl) (by kernel_rfl) (fun _ _ _ h => h) (Or.inl ⟨by rfl, by intro W hW; clear hW; go_simp⟩) hHeld ?_
  simp only [Act.put, List.setIfInBounds_toArray, List.set_cons_zero, List.set_cons_succ]
  refine take_at 5 34 (.int .u64 (r : Nat)) rfl rfl (by kernel_rfl) (by kernel_rfl) (by kernel_rfl) (fun _ _ _ h => h) (Or.inl ⟨by rfl, by intro W hW; clear hW; go_simp⟩) hHeld ?_
  simp only [Act.put, List.setIfInBounds_toArray, List.set_cons_zero, List.set_cons_succ]
  refine take_at 6 35 (.int .u64 0) rfl rfl (by kernel_rfl) (by kernel_rfl) (by kernel_rfl) (fun _ _ _ h => h) (Or.inl ⟨by rfl, by intro W hW; clear hW; go_simp⟩) hHeld ?_
  simp only [Act.put, List.setIfInBounds_toArray, List.set_cons_zero, List.set_cons_succ]
  refine take_at 7 36 (.bool false) rfl rfl (by kernel_rfl) (by kernel_rfl) (by kernel_rfl) (fun _ _ _ h => h) (Or.inl ⟨by rfl, by intro W hW; clear hW; go_simp⟩) hHeld ?_
  simp only [Act.put, List.setIfInBounds_toArray, List.set_cons_zero, List.set_cons_succ]
  refine take_at 8 37 (.bool false) rfl rfl (by kernel_rfl) (by kernel_rfl) (by kernel_rfl) (fun _ _ _ h => h) (Or.inl ⟨by rfl, by intro W hW; clear hW; go_simp⟩) hHeld ?_
  simp only [Act.put, List.setIfInBounds_toArray, List.set_cons_zero, List.set_cons_succ]
  refine take_at 9 38 (.bool false) rfl rfl (by kernel_rfl) (by kernel_rfl) (by kernel_rfl) (fun _ _ _ h => h) (Or.inl ⟨by rfl, by intro W hW; clear hW; go_simp⟩) hHeld ?_
  simp only [Act.put, List.setIfInBounds_toArray, List.set_cons_zero, List.set_cons_succ]
  refine take_at 10 39 (.int .u64 (r : Nat)) rfl rfl (by kernel_rfl) (by kernel_rfl) (by kernel_rfl) (fun _ _ _ h => h) (Or.inl ⟨by rfl, by intro W hW; clear hW; go_simp⟩) hHeld ?_
  simp only [Act.put, List.setIfInBounds_toArray, List.set_cons_zero, List.set_cons_succ]
  refine take_at 11 40 (.int .i64 (y : Nat)) rfl rfl (by kernel_rfl) (by kernel_rfl) (by kernel_rfl) (fun _ _ _ h => h) (Or.inl ⟨by rfl, by intro W hW; clear hW; go_simp⟩) hHeld ?_
  simp only [Act.put, List.setIfInBounds_toArray, List.set_cons_zero, List.set_cons_succ]
  refine take_at 13 42 (.agg (matA m)) rfl rfl (by kernel_rfl) (by kernel_rfl) (by kernel_rfl) (fun _ _ _ h => h) (yields_mat (by rfl) 28 (.tmp 7) rfl (w2.heap.size) rfl 28 m (fun W h => h.theirs) Tryd.underlying28 (matInfo _)) hHeld ?_
  simp only [Act.put, List.setIfInBounds_toArray, List.set_cons_zero, List.set_cons_succ]
  refine take_at 14 43 (.int .i64 (y : Nat)) rfl rfl (by kernel_rfl) (by kernel_rfl) (by kernel_rfl) (fun _ _ _ h => h) (Or.inl ⟨by rfl, by intro W hW; clear hW; go_simp⟩) hHeld ?_
  simp only [Act.put, List.setIfInBounds_toArray, List.set_cons_zero, List.set_cons_succ]
  refine take_at 16 45 (.int .i64 (x : Nat)) rfl rfl (by kernel_rfl) (by kernel_rfl) (by kernel_rfl) (fun _ _ _ h => h) (Or.inl ⟨by rfl, by intro W hW; clear hW; go_simp⟩) hHeld ?_
  simp only [Act.put, List.setIfInBounds_toArray, List.set_cons_zero, List.set_cons_succ]
  refine wpAnyH_ready (rs := [12]) (by kernel_rfl) (by simp) ?_
  refine AllReadyH.cons rfl (fun K hK => ?_) AllReadyH.nil
  go_simp
  refine (has_val r y true _ hrl (by omega) hry.out).mono ?_
  rintro e w' ⟨rfl, rfl⟩
  try go_simp
  refine hK.out _ _ hHeld (fun hHeld => ?_)
  clear hK K
  refine wpAnyH_ready (rs := [15]) (by kernel_rfl) (by simp) ?_
  refine AllReadyH.cons rfl (fun K hK => ?_) AllReadyH.nil
  go_simp
  refine (back_val m y q _ hm hy32 hHeld.tab hq.out).mono ?_
  rintro e w6 ⟨rfl, hbb⟩
  try go_simp
  have hHeld := hHeld.below hbb
  refine hK.out _ _ hHeld (fun hHeld => ?_)
  clear hK K hbb
  refine wpAnyH_ready (rs := [17]) (by kernel_rfl) (by simp) ?_
  refine AllReadyH.cons rfl (fun K hK => ?_) AllReadyH.nil
  go_simp
  refine (has_val q x true _ hql (by omega) hqx.out).mono ?_
  rintro e w' ⟨rfl, rfl⟩
  try go_simp
  refine hK.out _ _ hHeld (fun hHeld => ?_)
  clear hK K
  refine take_at 18 47 (.bool false) rfl rfl (by kernel_rfl) (by kernel_rfl) (by kernel_rfl) (fun _ _ _ h => h) (Or.inl ⟨by rfl, by intro W hW; clear hW; go_simp⟩) hHeld ?_
  simp only [Act.put, List.setIfInBounds_toArray, List.set_cons_zero, List.set_cons_succ]
  refine take_at 19 48 (.bool false) rfl rfl (by kernel_rfl) (by kernel_rfl) (by kernel_rfl) (fun _ _ _ h => h) (Or.inl ⟨by rfl, by intro W hW; clear hW; go_simp⟩) hHeld ?_
  simp only [Act.put, List.setIfInBounds_toArray, List.set_cons_zero, List.set_cons_succ]
  refine take_at 20 49 (.bool false) rfl rfl (by kernel_rfl) (by kernel_rfl) (by kernel_rfl) (fun _ _ _ h => h) (Or.inl ⟨by rfl, by intro W hW; clear hW; go_simp⟩) hHeld ?_
  simp only [Act.put, List.setIfInBounds_toArray, List.set_cons_zero, List.set_cons_succ]
  refine take_at 21 50 (.agg (matA m)) rfl rfl (by kernel_rfl) (by kernel_rfl) (by kernel_rfl) (fun _ _ _ h => h) (yields_mat (by rfl) 28 (.tmp 7) rfl (w2.heap.size) rfl 28 m (fun W h => h.theirs) Tryd.underlying28 (matInfo _)) hHeld ?_
  simp only [Act.put, List.setIfInBounds_toArray, List.set_cons_zero, List.set_cons_succ]
  refine take_at 22 51 (.int .i64 (x : Nat)) rfl rfl (by kernel_rfl) (by kernel_rfl) (by kernel_rfl) (fun _ _ _ h => h) (Or.inl ⟨by rfl, by intro W hW; clear hW; go_simp⟩) hHeld ?_
  simp only [Act.put, List.setIfInBounds_toArray, List.set_cons_zero, List.set_cons_succ]
  refine take_at 24 53 (.int .u64 (r : Nat)) rfl rfl (by kernel_rfl) (by kernel_rfl) (by kernel_rfl) (fun _ _ _ h => h) (Or.inl ⟨by rfl, by intro W hW; clear hW; go_simp⟩) hHeld ?_
  simp only [Act.put, List.setIfInBounds_toArray, List.set_cons_zero, List.set_cons_succ]
  refine wpAnyH_ready (rs := [23]) (by kernel_rfl) (by simp) ?_
  refine AllReadyH.cons rfl (fun K hK => ?_) AllReadyH.nil
  go_simp
  refine (outs_val m x u _ hm hx32 hu.out).mono ?_
  rintro e w7 ⟨rfl, hbb⟩
  try go_simp
  have hHeld := hHeld.below hbb
  refine hK.out _ _ hHeld (fun hHeld => ?_)
  clear hK K hbb
  refine take_at 25 54 (.int .u64 0) rfl rfl (by kernel_rfl) (by kernel_rfl) (by kernel_rfl) (fun _ _ _ h => h) (Or.inl ⟨by rfl, by intro W hW; clear hW; go_simp⟩) hHeld ?_
  simp only [Act.put, List.setIfInBounds_toArray, List.set_cons_zero, List.set_cons_succ]
  refine take_at 26 55 (.bool false) rfl rfl (by kernel_rfl) (by kernel_rfl) (by kernel_rfl) (fun _ _ _ h => h) (Or.inl ⟨by rfl, by intro W hW; clear hW; go_simp⟩) hHeld ?_
  simp only [Act.put, List.setIfInBounds_toArray, List.set_cons_zero, List.set_cons_succ]
  refine take_at 27 56 (.bool false) rfl rfl (by kernel_rfl) (by kernel_rfl) (by kernel_rfl) (fun _ _ _ h => h) (Or.inl ⟨by rfl, by intro W hW; clear hW; go_simp⟩) hHeld ?_
  simp only [Act.put, List.setIfInBounds_toArray, List.set_cons_zero, List.set_cons_succ]
  refine wpAnyH_done (by kernel_rfl) ?_ _
  refine NoPanic.normal ?_
  have HS7 := Lib.hid hHeld
  clear hHeld HS5
  go_wp2_with (first
    | (refine wpList_load_row rfl 28 (.tmp 7) rfl w2.heap.size rfl 28 (matA m) (0, 0) _ HS7.out.theirs Tryd.underlying28 rfl (matInfo _) ?_))
  refine (cut_in m x _ hm hx32).mono ?_
  rintro e w8 ⟨rfl, hb8⟩
  have HS8 := Lib.hid ((HS7.out.below hb8).alloc (.cells (matA (Mm.cut m x)) 28))
  have HN8 := Lib.hid (matAt_new w8 (Mm.cut m x) 28)
  clear hb8 HS7
  go_wp2_with (first
    | (refine wpList_store_row rfl 28 (.tmp 12) (.tmp 59) rfl w8.heap.size (matA (Mm.cut m x)) rfl rfl 28 _ (heap_alloc_new _ _) (matInfo _) (by rw [matA_size]; rfl) (matA_one _) ?_; rw [World.setRow_alloc_new])
    | (refine wpList_load_row rfl 28 (.tmp 12) rfl w8.heap.size rfl 28 (matA (Mm.cut m x)) (0, 0) _ HN8.out Tryd.underlying28 rfl (matInfo _) ?_))
  refine (reach_none (Mm.cut m x) x _ HO.out hx32 HS8.out.tab hc1.out).mono ?_
  rintro e w9 ⟨rfl, hb9⟩
  have HS9 := Lib.hid (HS8.out.below hb9)
  have HN9 := Lib.hid (HN8.out.below hb9)
  clear hb9 HS8 HN8
  go_wp2_with (first
    | (refine wpList_load_want rfl 28 (.tmp 12) rfl w8.heap.size rfl 28 (matA (Mm.cut m x)) (0, 0) _ _ HN9.out Tryd.underlying28 (matInfo _) ?_))
  refine (back_none (Mm.cut m x) x _ HO.out hx32 HS9.out.tab hc2.out).mono ?_
  rintro e w10 ⟨rfl, hb10⟩
  have HS10 := Lib.hid (HS9.out.below hb10)
  have HN10 := Lib.hid (HN9.out.below hb10)
  clear hb10 HS9 HN9
  go_wp2_with (first
    | (refine wpList_load_want rfl 28 (.tmp 12) rfl w8.heap.size rfl 28 (matA (Mm.cut m x)) (0, 0) _ _ HN10.out Tryd.underlying28 (matInfo _) ?_))
  refine (reach_val (Mm.cut m x) y v _ HO.out hy32 HS10.out.tab hv.out).mono ?_
  rintro e w11 ⟨rfl, hb11⟩
  have HS11 := Lib.hid (HS10.out.below hb11)
  clear hb11 HS10 HN10
  go_wp2
  go_ret
  exact ⟨rfl, HS11.out.bel⟩
theorem matThrough_any (m : Mm.Gr) (a b : Nat) (w : World) (hm : Mm.Ok m) (ha : a < 256) (hb : b < 256) (hT : TabAt w) :
    Calls Tryd.prog 5 #[.agg (matA m), .int .u8 (a : Nat), .int .u8 (b : Nat)] w fun e w' => e = .returned (.bool true) ∧ Below w.heap.size w w' := by
  have hx32 : a % 32 < 32 := Nat.mod_lt _ (by decide)
  have hy32 : b % 32 < 32 := Nat.mod_lt _ (by decide)
  have hx := tmod32 a
  have hy := tmod32 b
  generalize a % 32 = x at *
  generalize b % 32 = y at *
  have hqx : (Mm.ways (fun i j => Mm.E m j i) y).testBit x = (Mm.ways (Mm.E m) x).testBit y := by
    rw [Bool.eq_iff_iff, Mm.ways_test, Mm.ways_test, Mm.flip_way]
    exact ⟨fun h => ⟨hy32, h.2⟩, fun h => ⟨hx32, h.2⟩⟩
  have k2 := none_over (Mm.outs_lt m x) (Mm.ways_lt32 (Mm.E m) x) fun j hj => (Mm.ways_test _ _ _).2 ⟨Mm.test32 (Mm.outs_lt m x) hj, .one ((Mm.outs_test m x j).1 hj)⟩
  have k3 := none_over (Mm.ways_lt32 (Mm.E (Mm.cut m x)) y) (Mm.ways_lt32 (Mm.E m) y) fun j hj => by
    obtain ⟨h1, h2⟩ := (Mm.ways_test _ _ _).1 hj
    exact (Mm.ways_test _ _ _).2 ⟨h1, Mm.cut_down hm hx32 h2⟩
  have hc1 : Mm.ways (Mm.E (Mm.cut m x)) x = 0 := ways_none fun j => Mm.cut_from hm hx32
  have hc2 : Mm.ways (fun i j => Mm.E (Mm.cut m x) j i) x = 0 := ways_none fun j h => Mm.cut_to hm hx32 ((Mm.flip_way _ _ _).1 h)
  cases hry : (Mm.ways (Mm.E m) x).testBit y
  · exact through_false m a b x y _ _ _ _ _ w hm ha hb hx hy hx32 hy32 hT (Lib.hid rfl) (Lib.hid rfl) (Lib.hid rfl) (Lib.hid rfl) (Lib.hid rfl) (Mm.ways_lt _ _) (Mm.ways_lt _ _)
      (Lib.hid hry) (Lib.hid (hqx.trans hry)) k2 k3 (Lib.hid hc1) (Lib.hid hc2)
  · have k1 := none_over (Mm.ways_lt32 (Mm.E m) y) (Mm.ways_lt32 (Mm.E m) x) fun j hj => by
      obtain ⟨h1, h2⟩ := (Mm.ways_test _ _ _).1 hj
      exact (Mm.ways_test _ _ _).2 ⟨h1, ((Mm.ways_test _ _ _).1 hry).2.trans h2⟩
    exact through_true m a b x y _ _ _ _ _ w hm ha hb hx hy hx32 hy32 hT (Lib.hid rfl) (Lib.hid rfl) (Lib.hid rfl) (Lib.hid rfl) (Lib.hid rfl) (Mm.ways_lt _ _) (Mm.ways_lt _ _)
      (Lib.hid hry) (Lib.hid (hqx.trans hry)) k1 k2 k3 (Lib.hid hc1) (Lib.hid hc2)
end Go.Proofs.YtjciikdhjgekgaaDoor
