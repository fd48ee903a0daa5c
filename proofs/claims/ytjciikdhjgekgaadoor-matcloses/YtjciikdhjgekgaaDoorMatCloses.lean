/-
  The walk of MatCloses.
-/
import Derived.Test.YtjciikdhjgekgaaDoorMatLaw
namespace Go.Proofs.YtjciikdhjgekgaaDoor
open Go.RowKit
attribute [local go_sem ↓] Go.wp_at_zero Go.wp_at_succ
theorem free_val (m : Mm.Gr) (b : Bool) (w : World) (hm : Mm.Ok m) (hT : TabAt w) (h : Mm.free m = b) :
    Calls Tryd.prog 26 #[.agg (matA m)] w fun e w' => e = .returned (.bool b) ∧ Below w.heap.size w w' := by
  have := free_any m w hm hT
  rw [h] at this; exact this
set_option maxHeartbeats 2000000 in
set_option maxRecDepth 100000 in
theorem closes_same_no (m : Mm.Gr) (a b x : Nat) (w : World) (hm : Mm.Ok m) (ha : a < 256) (hb : b < 256) (hx : Int.tmod (a : Int) 32 = ((x : Nat) : Int)) (hy : Int.tmod (b : Int) 32 = ((x : Nat) : Int)) (hx32 : x < 32) (hT : TabAt w) (hF : Mm.free m = false) :
    Calls Tryd.prog 6 #[.agg (matA m), .int .u8 (a : Nat), .int .u8 (b : Nat)] w fun e w' => e = .returned (.bool true) ∧ Below w.heap.size w w' := by
  have HT := Lib.hid hT
  clear hT
  go_enter Tryd.func6, Tryd.ntmps6
  go_wp2_with fail
  refine (alive_any _ (tabAt_new HT.out _)).mono ?_
  rintro e w1 ⟨rfl, hb1⟩
  have H1 := Lib.hid ((matAt_new w m 24).below hb1)
  go_wp2_with (refine wpList_load_row rfl 24 (.tmp 3) rfl w.heap.size rfl 24 (matA m) (0, 0) _ H1.out Tryd.underlying24 rfl (rmatInfo m) ?_)
  refine (theirs_any m _).mono ?_
  rintro e w2 ⟨rfl, hb2⟩
  have HS := Lib.hid (st_first HT.out hb1 hb2)
  clear hb1 hb2 H1
  have HF := Lib.hid hF
  clear hF
  go_wp2_with (first
    | (refine wpList_store_row rfl 28 (.tmp 7) (.tmp 15) rfl w2.heap.size (matA m) rfl rfl 28 _ (heap_alloc_new _ _) (matInfo _) (by rw [matA_size]; rfl) (matA_one _) ?_; rw [World.setRow_alloc_new])
    | (refine wpList_load_row rfl 28 (.tmp 7) rfl w2.heap.size rfl 28 (matA m) (0, 0) _ HS.out.theirs Tryd.underlying28 rfl (matInfo _) ?_))
  refine (put_no3 m x _ hx32).mono ?_
  rintro e w3 ⟨rfl, hb3⟩
  have HS3 := Lib.hid ((HS.out.below hb3).alloc (.cells (matA m) 28))
  have HN3 := Lib.hid (matAt_new w3 m 28)
  clear hb3
  go_wp2_with (first
    | (refine wpList_store_row rfl 28 (.tmp 10) (.tmp 27) rfl w3.heap.size (matA m) rfl rfl 28 _ (heap_alloc_new _ _) (matInfo _) (by rw [matA_size]; rfl) (matA_one _) ?_; rw [World.setRow_alloc_new])
    | (refine wpList_load_row rfl 28 (.tmp 7) rfl w2.heap.size rfl 28 (matA m) (0, 0) _ HS3.out.theirs Tryd.underlying28 rfl (matInfo _) ?_))
  refine (free_val m false _ hm HS3.out.tab HF.out).mono ?_
  rintro e w4 ⟨rfl, hb4⟩
  have HS4 := Lib.hid (HS3.out.below hb4)
  have HN4 := Lib.hid (HN3.out.below hb4)
  clear hb4
  go_wp2_with (first
    | (refine wpList_load_row rfl 28 (.tmp 10) rfl w3.heap.size rfl 28 (matA m) (0, 0) _ HN4.out Tryd.underlying28 rfl (matInfo _) ?_))
  refine (free_val m false _ hm HS4.out.tab HF.out).mono ?_
  rintro e w5 ⟨rfl, hb5⟩
  go_wp2
  go_ret
  exact ⟨rfl, (HS4.out.below hb5).bel⟩
set_option maxHeartbeats 2000000 in
set_option maxRecDepth 100000 in
theorem closes_same_yes (m : Mm.Gr) (a b x : Nat) (w : World) (hm : Mm.Ok m) (ha : a < 256) (hb : b < 256) (hx : Int.tmod (a : Int) 32 = ((x : Nat) : Int)) (hy : Int.tmod (b : Int) 32 = ((x : Nat) : Int)) (hx32 : x < 32) (hT : TabAt w) (hF : Mm.free m = true) :
    Calls Tryd.prog 6 #[.agg (matA m), .int .u8 (a : Nat), .int .u8 (b : Nat)] w fun e w' => e = .returned (.bool true) ∧ Below w.heap.size w w' := by
  have HT := Lib.hid hT
  clear hT
  go_enter Tryd.func6, Tryd.ntmps6
  go_wp2_with fail
  refine (alive_any _ (tabAt_new HT.out _)).mono ?_
  rintro e w1 ⟨rfl, hb1⟩
  have H1 := Lib.hid ((matAt_new w m 24).below hb1)
  go_wp2_with (refine wpList_load_row rfl 24 (.tmp 3) rfl w.heap.size rfl 24 (matA m) (0, 0) _ H1.out Tryd.underlying24 rfl (rmatInfo m) ?_)
  refine (theirs_any m _).mono ?_
  rintro e w2 ⟨rfl, hb2⟩
  have HS := Lib.hid (st_first HT.out hb1 hb2)
  clear hb1 hb2 H1
  have HF := Lib.hid hF
  clear hF
  go_wp2_with (first
    | (refine wpList_store_row rfl 28 (.tmp 7) (.tmp 15) rfl w2.heap.size (matA m) rfl rfl 28 _ (heap_alloc_new _ _) (matInfo _) (by rw [matA_size]; rfl) (matA_one _) ?_; rw [World.setRow_alloc_new])
    | (refine wpList_load_row rfl 28 (.tmp 7) rfl w2.heap.size rfl 28 (matA m) (0, 0) _ HS.out.theirs Tryd.underlying28 rfl (matInfo _) ?_))
  refine (put_no3 m x _ hx32).mono ?_
  rintro e w3 ⟨rfl, hb3⟩
  have HS3 := Lib.hid ((HS.out.below hb3).alloc (.cells (matA m) 28))
  have HN3 := Lib.hid (matAt_new w3 m 28)
  clear hb3
  go_wp2_with (first
    | (refine wpList_store_row rfl 28 (.tmp 10) (.tmp 27) rfl w3.heap.size (matA m) rfl rfl 28 _ (heap_alloc_new _ _) (matInfo _) (by rw [matA_size]; rfl) (matA_one _) ?_; rw [World.setRow_alloc_new])
    | (refine wpList_load_row rfl 28 (.tmp 7) rfl w2.heap.size rfl 28 (matA m) (0, 0) _ HS3.out.theirs Tryd.underlying28 rfl (matInfo _) ?_))
  refine (free_val m true _ hm HS3.out.tab HF.out).mono ?_
  rintro e w4 ⟨rfl, hb4⟩
  have HS4 := Lib.hid (HS3.out.below hb4)
  have HN4 := Lib.hid (HN3.out.below hb4)
  clear hb4
  have hE := eq_mat m m true ((sameM_iff m m).2 fun _ _ => rfl)
  go_wp2_with (first
    | (refine wpList_load_want rfl 28 (.tmp 10) rfl w3.heap.size rfl 28 (matA m) (0, 0) _ _ HN4.out Tryd.underlying28 (matInfo _) ?_)
    | (refine wpList_load_want rfl 28 (.tmp 7) rfl w2.heap.size rfl 28 (matA m) (0, 0) _ _ HS4.out.theirs Tryd.underlying28 (matInfo _) ?_))
  go_ret
  exact ⟨rfl, HS4.out.bel⟩
set_option maxHeartbeats 2000000 in
set_option maxRecDepth 100000 in
theorem closes_no (m : Mm.Gr) (a b x y : Nat) (w : World) (hm : Mm.Ok m) (ha : a < 256) (hb : b < 256) (hx : Int.tmod (a : Int) 32 = ((x : Nat) : Int)) (hy : Int.tmod (b : Int) 32 = ((y : Nat) : Int)) (hx32 : x < 32) (hy32 : y < 32) (hT : TabAt w) (hne : x ≠ y) (hF : Mm.free m = false) :
    Calls Tryd.prog 6 #[.agg (matA m), .int .u8 (a : Nat), .int .u8 (b : Nat)] w fun e w' => e = .returned (.bool true) ∧ Below w.heap.size w w' := by
  have HT := Lib.hid hT
  clear hT
  go_enter Tryd.func6, Tryd.ntmps6
  go_wp2_with fail
  refine (alive_any _ (tabAt_new HT.out _)).mono ?_
  rintro e w1 ⟨rfl, hb1⟩
  have H1 := Lib.hid ((matAt_new w m 24).below hb1)
  go_wp2_with (refine wpList_load_row rfl 24 (.tmp 3) rfl w.heap.size rfl 24 (matA m) (0, 0) _ H1.out Tryd.underlying24 rfl (rmatInfo m) ?_)
  refine (theirs_any m _).mono ?_
  rintro e w2 ⟨rfl, hb2⟩
  have HS := Lib.hid (st_first HT.out hb1 hb2)
  clear hb1 hb2 H1
  have HF := Lib.hid hF
  have HP := Lib.hid (Mm.put_still hx32 hy32 hF)
  have HO := Lib.hid (Mm.put_ok x y hm)
  clear hF
  go_wp2_with (first
    | (refine wpList_store_row rfl 28 (.tmp 7) (.tmp 15) rfl w2.heap.size (matA m) rfl rfl 28 _ (heap_alloc_new _ _) (matInfo _) (by rw [matA_size]; rfl) (matA_one _) ?_; rw [World.setRow_alloc_new])
    | (refine wpList_load_row rfl 28 (.tmp 7) rfl w2.heap.size rfl 28 (matA m) (0, 0) _ HS.out.theirs Tryd.underlying28 rfl (matInfo _) ?_))
  refine (put_yes m x y _ hm hx32 hy32 hne).mono ?_
  rintro e w3 ⟨rfl, hb3⟩
  have HS3 := Lib.hid ((HS.out.below hb3).alloc (.cells (matA (Mm.put m x y)) 28))
  have HN3 := Lib.hid (matAt_new w3 (Mm.put m x y) 28)
  clear hb3
  go_wp2_with (first
    | (refine wpList_store_row rfl 28 (.tmp 10) (.tmp 27) rfl w3.heap.size (matA (Mm.put m x y)) rfl rfl 28 _ (heap_alloc_new _ _) (matInfo _) (by rw [matA_size]; rfl) (matA_one _) ?_; rw [World.setRow_alloc_new])
    | (refine wpList_load_row rfl 28 (.tmp 7) rfl w2.heap.size rfl 28 (matA m) (0, 0) _ HS3.out.theirs Tryd.underlying28 rfl (matInfo _) ?_))
  refine (free_val m false _ hm HS3.out.tab HF.out).mono ?_
  rintro e w4 ⟨rfl, hb4⟩
  have HS4 := Lib.hid (HS3.out.below hb4)
  have HN4 := Lib.hid (HN3.out.below hb4)
  clear hb4
  go_wp2_with (first
    | (refine wpList_load_row rfl 28 (.tmp 10) rfl w3.heap.size rfl 28 (matA (Mm.put m x y)) (0, 0) _ HN4.out Tryd.underlying28 rfl (matInfo _) ?_))
  refine (free_val (Mm.put m x y) false _ HO.out HS4.out.tab HP.out).mono ?_
  rintro e w5 ⟨rfl, hb5⟩
  go_wp2
  go_ret
  exact ⟨rfl, (HS4.out.below hb5).bel⟩
set_option maxHeartbeats 2000000 in
set_option maxRecDepth 100000 in
theorem closes_yes (m : Mm.Gr) (a b x y : Nat) (w : World) (hm : Mm.Ok m) (ha : a < 256) (hb : b < 256) (hx : Int.tmod (a : Int) 32 = ((x : Nat) : Int)) (hy : Int.tmod (b : Int) 32 = ((y : Nat) : Int)) (hx32 : x < 32) (hy32 : y < 32) (hT : TabAt w) (c : Bool) (hne : x ≠ y) (hF : Mm.free m = true) (hc : (Mm.ways (Mm.E m) y).testBit x = c) :
    Calls Tryd.prog 6 #[.agg (matA m), .int .u8 (a : Nat), .int .u8 (b : Nat)] w fun e w' => e = .returned (.bool true) ∧ Below w.heap.size w w' := by
  have HT := Lib.hid hT
  clear hT
  go_enter Tryd.func6, Tryd.ntmps6
  go_wp2_with fail
  refine (alive_any _ (tabAt_new HT.out _)).mono ?_
  rintro e w1 ⟨rfl, hb1⟩
  have H1 := Lib.hid ((matAt_new w m 24).below hb1)
  go_wp2_with (refine wpList_load_row rfl 24 (.tmp 3) rfl w.heap.size rfl 24 (matA m) (0, 0) _ H1.out Tryd.underlying24 rfl (rmatInfo m) ?_)
  refine (theirs_any m _).mono ?_
  rintro e w2 ⟨rfl, hb2⟩
  have HS := Lib.hid (st_first HT.out hb1 hb2)
  clear hb1 hb2 H1
  have HF := Lib.hid hF
  have HP := Lib.hid (show Mm.free (Mm.put m x y) = !c by rw [Mm.put_closes hx32 hy32 hne hF, Sm.has_nat x (Mm.ways_lt _ _), hc])
  have HO := Lib.hid (Mm.put_ok x y hm)
  have HC := Lib.hid hc
  have hwl := Mm.ways_lt (Mm.E m) y
  have hne' : (((x : Nat) : Int) == ((y : Nat) : Int)) = false := by simp; omega
  clear hF hc
  go_wp2_with (first
    | (refine wpList_store_row rfl 28 (.tmp 7) (.tmp 15) rfl w2.heap.size (matA m) rfl rfl 28 _ (heap_alloc_new _ _) (matInfo _) (by rw [matA_size]; rfl) (matA_one _) ?_; rw [World.setRow_alloc_new])
    | (refine wpList_load_row rfl 28 (.tmp 7) rfl w2.heap.size rfl 28 (matA m) (0, 0) _ HS.out.theirs Tryd.underlying28 rfl (matInfo _) ?_))
  refine (put_yes m x y _ hm hx32 hy32 hne).mono ?_
  rintro e w3 ⟨rfl, hb3⟩
  have HS3 := Lib.hid ((HS.out.below hb3).alloc (.cells (matA (Mm.put m x y)) 28))
  have HN3 := Lib.hid (matAt_new w3 (Mm.put m x y) 28)
  clear hb3
  go_wp2_with (first
    | (refine wpList_store_row rfl 28 (.tmp 10) (.tmp 27) rfl w3.heap.size (matA (Mm.put m x y)) rfl rfl 28 _ (heap_alloc_new _ _) (matInfo _) (by rw [matA_size]; rfl) (matA_one _) ?_; rw [World.setRow_alloc_new])
    | (refine wpList_load_row rfl 28 (.tmp 7) rfl w2.heap.size rfl 28 (matA m) (0, 0) _ HS3.out.theirs Tryd.underlying28 rfl (matInfo _) ?_))
  refine (free_val m true _ hm HS3.out.tab HF.out).mono ?_
  rintro e w4 ⟨rfl, hb4⟩
  have HS4 := Lib.hid (HS3.out.below hb4)
  have HN4 := Lib.hid (HN3.out.below hb4)
  clear hb4
  have HZ := Lib.hid (S2.mk HS4.out HN4.out)
  clear HS4 HN4 HS3 HN3 HS
  go_wp2_with fail
  refine wp_region_noPanic ?_
  refine region_start (S := S2 w w2.heap.size m w3.heap.size (Mm.put m x y)) 13 rfl (by kernel_rfl) (HZ.out.drew) (fun hHeld => ?_)
  refine take_at 0 45 (.bool true) rfl rfl (by kernel_rfl) (by kernel_rfl) (by kernel_rfl) (fun _ _ _ h => h) (Or.inl ⟨by rfl, by intro W hW; clear hW; go_simp⟩) hHeld ?_
  simp only [Act.put, List.setIfInBounds_toArray, List.set_cons_zero, List.set_cons_succ]
  refine take_at 1 46 (.bool true) rfl rfl (by kernel_rfl) (by kernel_rfl) (by kernel_rfl) (fun _ _ _ h => h) (Or.inl ⟨by rfl, by intro W hW; clear hW; go_simp⟩) hHeld ?_
  simp only [Act.put, List.setIfInBounds_toArray, List.set_cons_zero, List.set_cons_succ]
  refine take_at 2 47 (.agg (matA (Mm.put m x y))) rfl rfl (by kernel_rfl) (by kernel_rfl) (by kernel_rfl) (fun _ _ _ h => h) (yields_mat (by rfl) 28 (.tmp 10) rfl (w3.heap.size) rfl 28 (Mm.put m x y) (fun W h => h.other) Tryd.underlying28 (matInfo _)) hHeld ?_
  simp only [Act.put, List.setIfInBounds_toArray, List.set_cons_zero, List.set_cons_succ]
  refine take_at 4 49 (.agg (matA m)) rfl rfl (by kernel_rfl) (by kernel_rfl) (by kernel_rfl) (fun _ _ _ h => h) (yields_mat (by rfl) 28 (.tmp 7) rfl (w2.heap.size) rfl 28 m (fun W h => h.st.theirs) Tryd.underlying28 (matInfo _)) hHeld ?_
  simp only [Act.put, List.setIfInBounds_toArray, List.set_cons_zero, List.set_cons_succ]
  refine take_at 5 50 (.int .i64 (y : Nat)) rfl rfl (by kernel_rfl) (by kernel_rfl) (by kernel_rfl) (fun _ _ _ h => h) (Or.inl ⟨by rfl, by intro W hW; clear hW; go_simp⟩) hHeld ?_
  simp only [Act.put, List.setIfInBounds_toArray, List.set_cons_zero, List.set_cons_succ]
  refine take_at 7 52 (.int .i64 (x : Nat)) rfl rfl (by kernel_rfl) (by kernel_rfl) (by kernel_rfl) (fun _ _ _ h => h) (Or.inl ⟨by rfl, by intro W hW; clear hW; go_simp⟩) hHeld ?_
  simp only [Act.put, List.setIfInBounds_toArray, List.set_cons_zero, List.set_cons_succ]
  refine wpAnyH_ready (rs := [3]) (by kernel_rfl) (by simp) ?_
  refine AllReadyH.cons rfl (fun K hK => ?_) AllReadyH.nil
  go_simp
  refine (free_val (Mm.put m x y) (!c) _ HO.out hHeld.st.tab HP.out).mono ?_
  rintro e w5 ⟨rfl, hb⟩
  try go_simp
  have hHeld := hHeld.below hb
  refine hK.out _ _ hHeld (fun hHeld => ?_)
  clear hK K hb
  refine wpAnyH_ready (rs := [6]) (by kernel_rfl) (by simp) ?_
  refine AllReadyH.cons rfl (fun K hK => ?_) AllReadyH.nil
  go_simp
  refine (reach_in m y _ hm hy32 hHeld.st.tab).mono ?_
  rintro e w6 ⟨rfl, hb⟩
  try go_simp
  have hHeld := hHeld.below hb
  refine hK.out _ _ hHeld (fun hHeld => ?_)
  clear hK K hb
  refine wpAnyH_ready (rs := [8]) (by kernel_rfl) (by simp) ?_
  refine AllReadyH.cons rfl (fun K hK => ?_) AllReadyH.nil
  go_simp
  refine (has_val _ _ _ _ hwl (by omega) HC.out).mono ?_
  rintro e w' ⟨rfl, rfl⟩
  try go_simp
  refine hK.out _ _ hHeld (fun hHeld => ?_)
  clear hK K
  refine take_at 9 54 (.bool (!c)) rfl rfl (by kernel_rfl) (by kernel_rfl) (by kernel_rfl) (fun _ _ _ h => h) (Or.inl ⟨by rfl, by intro W hW; clear hW; go_simp⟩) hHeld ?_
  simp only [Act.put, List.setIfInBounds_toArray, List.set_cons_zero, List.set_cons_succ]
  refine take_at 10 55 (.bool true) rfl rfl (by kernel_rfl) (by kernel_rfl) (by kernel_rfl) (fun _ _ _ h => h) (Or.inl ⟨by rfl, by intro W hW; clear hW; go_simp⟩) hHeld ?_
  simp only [Act.put, List.setIfInBounds_toArray, List.set_cons_zero, List.set_cons_succ]
  refine take_at 11 56 (.bool true) rfl rfl (by kernel_rfl) (by kernel_rfl) (by kernel_rfl) (fun _ _ _ h => h) (Or.inl ⟨by rfl, by intro W hW; clear hW; go_simp⟩) hHeld ?_
  simp only [Act.put, List.setIfInBounds_toArray, List.set_cons_zero, List.set_cons_succ]
  refine take_at 12 6 (.bool true) rfl rfl (by kernel_rfl) (by kernel_rfl) (by kernel_rfl) (fun _ _ _ h => h) (Or.inl ⟨by rfl, by intro W hW; clear hW; go_simp⟩) hHeld ?_
  simp only [Act.put, List.setIfInBounds_toArray, List.set_cons_zero, List.set_cons_succ]
  refine wpAnyH_done (by kernel_rfl) ?_ _
  refine NoPanic.normal ?_
  go_wp2
  go_ret
  exact ⟨rfl, hHeld.st.bel⟩
theorem matCloses_any (m : Mm.Gr) (a b : Nat) (w : World) (hm : Mm.Ok m) (ha : a < 256) (hb : b < 256) (hT : TabAt w) :
    Calls Tryd.prog 6 #[.agg (matA m), .int .u8 (a : Nat), .int .u8 (b : Nat)] w fun e w' => e = .returned (.bool true) ∧ Below w.heap.size w w' := by
  have hx32 : a % 32 < 32 := Nat.mod_lt _ (by decide)
  have hy32 : b % 32 < 32 := Nat.mod_lt _ (by decide)
  by_cases hne : a % 32 = b % 32
  · have hy := tmod32 b
    rw [← hne] at hy
    cases hF : Mm.free m
    · exact closes_same_no m a b (a % 32) w hm ha hb (tmod32 a) hy hx32 hT hF
    · exact closes_same_yes m a b (a % 32) w hm ha hb (tmod32 a) hy hx32 hT hF
  · cases hF : Mm.free m
    · exact closes_no m a b (a % 32) (b % 32) w hm ha hb (tmod32 a) (tmod32 b) hx32 hy32 hT hne hF
    · exact closes_yes m a b (a % 32) (b % 32) w hm ha hb (tmod32 a) (tmod32 b) hx32 hy32 hT _ hne hF rfl
end Go.Proofs.YtjciikdhjgekgaaDoor
