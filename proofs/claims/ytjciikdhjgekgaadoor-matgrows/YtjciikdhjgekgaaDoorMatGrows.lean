/-
  The walk of MatGrows.
-/
import Derived.Test.YtjciikdhjgekgaaDoorMatThrough
namespace Go.Proofs.YtjciikdhjgekgaaDoor
open Go.RowKit
attribute [local go_sem ↓] Go.wp_at_zero Go.wp_at_succ
def GrowsRel (w : World) (g : Nat) (m : Mm.Gr) (g' : Nat) (n : Mm.Gr) (g'' : Nat) (c : Mm.Gr) (i : Value) (wr : World) : Prop :=
  ∃ k : Nat, k ≤ 32 ∧ i = .int .i64 k ∧ S3 w g m g' n g'' c wr
set_option maxHeartbeats 4000000 in
set_option maxRecDepth 100000 in
theorem grows_same (m n : Mm.Gr) (a b x : Nat) (w : World) (hm : Mm.Ok m) (hn : Mm.Ok n) (ha : a < 256) (hb : b < 256) (hx : Int.tmod (a : Int) 32 = ((x : Nat) : Int)) (hy : Int.tmod (b : Int) 32 = ((x : Nat) : Int)) (hx32 : x < 32) (hT : TabAt w)
    (hP : ∀ W, Calls Tryd.prog 12 #[.agg (matA m), .int .i64 (x : Nat), .int .i64 (x : Nat)] W fun e W' => e = .returned (.tuple #[.agg (matA n), .bool false]) ∧ Below W.heap.size W W')
    (k1 : Go.RowKit.Hid (∀ i, bits .andNot .u64 ((Mm.ways (Mm.E m) i : Nat) : Int) ((Mm.ways (Mm.E n) i : Nat) : Int) = 0)) (k2 : Go.RowKit.Hid (∀ i, bits .andNot .u64 ((Mm.ways (Mm.E (Mm.cut m x)) i : Nat) : Int) ((Mm.ways (Mm.E m) i : Nat) : Int) = 0)) :
    Calls Tryd.prog 8 #[.agg (matA m), .int .u8 (a : Nat), .int .u8 (b : Nat)] w fun e w' => e = .returned (.bool true) ∧ Below w.heap.size w w' := by
  have HO := Lib.hid (Mm.cut_ok x hm)
  have HPut := Lib.hid hP
  clear hP
  have HT := Lib.hid hT
  clear hT
  go_enter Tryd.func8, Tryd.ntmps8
  go_wp2_with fail
  refine (alive_any _ (tabAt_new HT.out _)).mono ?_
  rintro e w1 ⟨rfl, hb1⟩
  have H1 := Lib.hid ((matAt_new w m 24).below hb1)
  go_wp2_with (refine wpList_load_row rfl 24 (.tmp 3) rfl w.heap.size rfl 24 (matA m) (0, 0) _ H1.out Tryd.underlying24 rfl (rmatInfo m) ?_)
  refine (theirs_any m _).mono ?_
  rintro e w2 ⟨rfl, hb2⟩
  have HS := Lib.hid (st_first HT.out hb1 hb2)
  clear hb1 hb2 H1
  go_wp2_with (first
    | (refine wpList_store_row rfl 28 (.tmp 7) (.tmp 17) rfl w2.heap.size (matA m) rfl rfl 28 _ (heap_alloc_new _ _) (matInfo _) (by rw [matA_size]; rfl) (matA_one _) ?_; rw [World.setRow_alloc_new])
    | (refine wpList_load_row rfl 28 (.tmp 7) rfl w2.heap.size rfl 28 (matA m) (0, 0) _ HS.out.theirs Tryd.underlying28 rfl (matInfo _) ?_))
  refine (HPut.out _).mono ?_
  rintro e w3 ⟨rfl, hb3⟩
  have HS3 := Lib.hid ((HS.out.below hb3).alloc (.cells (matA n) 28))
  have HN3 := Lib.hid (matAt_new w3 n 28)
  clear hb3 HS
  go_wp2_with (first
    | (refine wpList_store_row rfl 28 (.tmp 10) (.tmp 29) rfl w3.heap.size (matA n) rfl rfl 28 _ (heap_alloc_new _ _) (matInfo _) (by rw [matA_size]; rfl) (matA_one _) ?_; rw [World.setRow_alloc_new])
    | (refine wpList_load_row rfl 28 (.tmp 7) rfl w2.heap.size rfl 28 (matA m) (0, 0) _ HS3.out.theirs Tryd.underlying28 rfl (matInfo _) ?_))
  refine (cut_in m x _ hm hx32).mono ?_
  rintro e w4 ⟨rfl, hb4⟩
  have HS4 := Lib.hid ((HS3.out.below hb4).alloc (.cells (matA (Mm.cut m x)) 28))
  have HN4 := Lib.hid ((HN3.out.below hb4).alloc (.cells (matA (Mm.cut m x)) 28))
  have HC4 := Lib.hid (matAt_new w4 (Mm.cut m x) 28)
  clear hb4 HS3 HN3
  have HZ := Lib.hid (S3.mk HS4.out HN4.out HC4.out)
  clear HS4 HN4 HC4
  go_wp2_with (first
    | (refine wpList_store_row rfl 28 (.tmp 12) (.tmp 33) rfl w4.heap.size (matA (Mm.cut m x)) rfl rfl 28 _ (heap_alloc_new _ _) (matInfo _) (by rw [matA_size]; rfl) (matA_one _) ?_; rw [World.setRow_alloc_new]))
  go_loopw [34] (GrowsRel w w2.heap.size m w3.heap.size n w4.heap.size (Mm.cut m x)) (fun i _ => 32 - (intOf i).toNat)
  case atStart => exact ⟨0, by omega, rfl, HZ.out⟩
  case round =>
    obtain ⟨k, hk, rfl, hZ⟩ := hrel
    have HZr := Lib.hid hZ
    clear hZ HZ
    by_cases hlt : k < 32
    · have j1 := k1.out k
      have j2 := k2.out k
      go_wp2_with fail
      refine wp_region_noPanic ?_
      refine region_start (S := S3 w w2.heap.size m w3.heap.size n w4.heap.size (Mm.cut m x)) 18 rfl (by kernel_rfl) (HZr.out.drew) (fun hHeld => ?_)
      refine take_at 0 37 (.agg (matA m)) rfl rfl (by kernel_rfl) (by kernel_rfl) (by kernel_rfl) (fun _ _ _ h => h) (yields_mat (by rfl) 28 (.tmp 7) rfl (w2.heap.size) rfl 28 m (fun W h => h.st.theirs) Tryd.underlying28 (matInfo _)) hHeld ?_
      simp only [Act.put, List.setIfInBounds_toArray, List.set_cons_zero, List.set_cons_succ]
      refine take_at 1 38 (.int .i64 (k : Nat)) rfl rfl (by kernel_rfl) (by kernel_rfl) (by kernel_rfl) (fun _ _ _ h => h) (Or.inl ⟨by rfl, by intro W hW; clear hW; go_simp⟩) hHeld ?_
      simp only [Act.put, List.setIfInBounds_toArray, List.set_cons_zero, List.set_cons_succ]
      refine take_at 3 40 (.agg (matA n)) rfl rfl (by kernel_rfl) (by kernel_rfl) (by kernel_rfl) (fun _ _ _ h => h) (yields_mat (by rfl) 28 (.tmp 10) rfl (w3.heap.size) rfl 28 n (fun W h => h.two) Tryd.underlying28 (matInfo _)) hHeld ?_
      simp only [Act.put, List.setIfInBounds_toArray, List.set_cons_zero, List.set_cons_succ]
      refine take_at 4 41 (.int .i64 (k : Nat)) rfl rfl (by kernel_rfl) (by kernel_rfl) (by kernel_rfl) (fun _ _ _ h => h) (Or.inl ⟨by rfl, by intro W hW; clear hW; go_simp⟩) hHeld ?_
      simp only [Act.put, List.setIfInBounds_toArray, List.set_cons_zero, List.set_cons_succ]
      refine wpAnyH_ready (rs := [2]) (by kernel_rfl) (by simp) ?_
      refine AllReadyH.cons rfl (fun K hK => ?_) AllReadyH.nil
      go_simp
      refine (reach_in m k _ hm hlt hHeld.st.tab).mono ?_
      rintro e w5 ⟨rfl, hbb⟩
      try go_simp
      have hHeld := hHeld.below hbb
      refine hK.out _ _ hHeld (fun hHeld => ?_)
      clear hK K hbb
      refine wpAnyH_ready (rs := [5]) (by kernel_rfl) (by simp) ?_
      refine AllReadyH.cons rfl (fun K hK => ?_) AllReadyH.nil
      go_simp
      refine (reach_in n k _ hn hlt hHeld.st.tab).mono ?_
      rintro e w6 ⟨rfl, hbb⟩
      try go_simp
      have hHeld := hHeld.below hbb
      refine hK.out _ _ hHeld (fun hHeld => ?_)
      clear hK K hbb
      refine take_at 6 43 (.int .u64 0) rfl rfl (by kernel_rfl) (by kernel_rfl) (by kernel_rfl) (fun _ _ _ h => h) (Or.inl ⟨by rfl, by intro W hW; clear hW; go_simp⟩) hHeld ?_
      simp only [Act.put, List.setIfInBounds_toArray, List.set_cons_zero, List.set_cons_succ]
      refine take_at 7 44 (.bool false) rfl rfl (by kernel_rfl) (by kernel_rfl) (by kernel_rfl) (fun _ _ _ h => h) (Or.inl ⟨by rfl, by intro W hW; clear hW; go_simp⟩) hHeld ?_
      simp only [Act.put, List.setIfInBounds_toArray, List.set_cons_zero, List.set_cons_succ]
      refine take_at 8 45 (.bool false) rfl rfl (by kernel_rfl) (by kernel_rfl) (by kernel_rfl) (fun _ _ _ h => h) (Or.inl ⟨by rfl, by intro W hW; clear hW; go_simp⟩) hHeld ?_
      simp only [Act.put, List.setIfInBounds_toArray, List.set_cons_zero, List.set_cons_succ]
      refine take_at 9 46 (.agg (matA (Mm.cut m x))) rfl rfl (by kernel_rfl) (by kernel_rfl) (by kernel_rfl) (fun _ _ _ h => h) (yields_mat (by rfl) 28 (.tmp 12) rfl (w4.heap.size) rfl 28 (Mm.cut m x) (fun W h => h.three) Tryd.underlying28 (matInfo _)) hHeld ?_
      simp only [Act.put, List.setIfInBounds_toArray, List.set_cons_zero, List.set_cons_succ]
      refine take_at 10 47 (.int .i64 (k : Nat)) rfl rfl (by kernel_rfl) (by kernel_rfl) (by kernel_rfl) (fun _ _ _ h => h) (Or.inl ⟨by rfl, by intro W hW; clear hW; go_simp⟩) hHeld ?_
      simp only [Act.put, List.setIfInBounds_toArray, List.set_cons_zero, List.set_cons_succ]
      refine take_at 12 49 (.agg (matA m)) rfl rfl (by kernel_rfl) (by kernel_rfl) (by kernel_rfl) (fun _ _ _ h => h) (yields_mat (by rfl) 28 (.tmp 7) rfl (w2.heap.size) rfl 28 m (fun W h => h.st.theirs) Tryd.underlying28 (matInfo _)) hHeld ?_
      simp only [Act.put, List.setIfInBounds_toArray, List.set_cons_zero, List.set_cons_succ]
      refine take_at 13 50 (.int .i64 (k : Nat)) rfl rfl (by kernel_rfl) (by kernel_rfl) (by kernel_rfl) (fun _ _ _ h => h) (Or.inl ⟨by rfl, by intro W hW; clear hW; go_simp⟩) hHeld ?_
      simp only [Act.put, List.setIfInBounds_toArray, List.set_cons_zero, List.set_cons_succ]
      refine wpAnyH_ready (rs := [11]) (by kernel_rfl) (by simp) ?_
      refine AllReadyH.cons rfl (fun K hK => ?_) AllReadyH.nil
      go_simp
      refine (reach_in (Mm.cut m x) k _ HO.out hlt hHeld.st.tab).mono ?_
      rintro e w7 ⟨rfl, hbb⟩
      try go_simp
      have hHeld := hHeld.below hbb
      refine hK.out _ _ hHeld (fun hHeld => ?_)
      clear hK K hbb
      refine wpAnyH_ready (rs := [14]) (by kernel_rfl) (by simp) ?_
      refine AllReadyH.cons rfl (fun K hK => ?_) AllReadyH.nil
      go_simp
      refine (reach_in m k _ hm hlt hHeld.st.tab).mono ?_
      rintro e w8 ⟨rfl, hbb⟩
      try go_simp
      have hHeld := hHeld.below hbb
      refine hK.out _ _ hHeld (fun hHeld => ?_)
      clear hK K hbb
      refine take_at 15 52 (.int .u64 0) rfl rfl (by kernel_rfl) (by kernel_rfl) (by kernel_rfl) (fun _ _ _ h => h) (Or.inl ⟨by rfl, by intro W hW; clear hW; go_simp⟩) hHeld ?_
      simp only [Act.put, List.setIfInBounds_toArray, List.set_cons_zero, List.set_cons_succ]
      refine take_at 16 53 (.bool false) rfl rfl (by kernel_rfl) (by kernel_rfl) (by kernel_rfl) (fun _ _ _ h => h) (Or.inl ⟨by rfl, by intro W hW; clear hW; go_simp⟩) hHeld ?_
      simp only [Act.put, List.setIfInBounds_toArray, List.set_cons_zero, List.set_cons_succ]
      refine take_at 17 54 (.bool false) rfl rfl (by kernel_rfl) (by kernel_rfl) (by kernel_rfl) (fun _ _ _ h => h) (Or.inl ⟨by rfl, by intro W hW; clear hW; go_simp⟩) hHeld ?_
      simp only [Act.put, List.setIfInBounds_toArray, List.set_cons_zero, List.set_cons_succ]
      refine wpAnyH_done (by kernel_rfl) ?_ _
      refine NoPanic.normal ?_
      go_wp2
      exact ⟨⟨k + 1, by omega, by go_num, hHeld⟩, by simp [intOf]; omega⟩
    · obtain rfl : k = 32 := by omega
      go_wp2
      go_ret
      exact ⟨rfl, HZr.out.st.bel⟩
set_option maxHeartbeats 4000000 in
set_option maxRecDepth 100000 in
theorem grows_other (m n : Mm.Gr) (a b x y : Nat) (w : World) (hm : Mm.Ok m) (hn : Mm.Ok n) (ha : a < 256) (hb : b < 256) (hx : Int.tmod (a : Int) 32 = ((x : Nat) : Int)) (hy : Int.tmod (b : Int) 32 = ((y : Nat) : Int)) (hx32 : x < 32) (hy32 : y < 32) (hne : (((x : Nat) : Int) == ((y : Nat) : Int)) = false) (hT : TabAt w)
    (hP : ∀ W, Calls Tryd.prog 12 #[.agg (matA m), .int .i64 (x : Nat), .int .i64 (y : Nat)] W fun e W' => e = .returned (.tuple #[.agg (matA n), .bool true]) ∧ Below W.heap.size W W')
    (k1 : Go.RowKit.Hid (∀ i, bits .andNot .u64 ((Mm.ways (Mm.E m) i : Nat) : Int) ((Mm.ways (Mm.E n) i : Nat) : Int) = 0)) (k2 : Go.RowKit.Hid (∀ i, bits .andNot .u64 ((Mm.ways (Mm.E (Mm.cut m y)) i : Nat) : Int) ((Mm.ways (Mm.E m) i : Nat) : Int) = 0)) (hh : Go.RowKit.Hid ((Mm.ways (Mm.E n) x).testBit y = true)) :
    Calls Tryd.prog 8 #[.agg (matA m), .int .u8 (a : Nat), .int .u8 (b : Nat)] w fun e w' => e = .returned (.bool true) ∧ Below w.heap.size w w' := by
  have HO := Lib.hid (Mm.cut_ok y hm)
  have HPut := Lib.hid hP
  clear hP
  have HT := Lib.hid hT
  clear hT
  go_enter Tryd.func8, Tryd.ntmps8
  go_wp2_with fail
  refine (alive_any _ (tabAt_new HT.out _)).mono ?_
  rintro e w1 ⟨rfl, hb1⟩
  have H1 := Lib.hid ((matAt_new w m 24).below hb1)
  go_wp2_with (refine wpList_load_row rfl 24 (.tmp 3) rfl w.heap.size rfl 24 (matA m) (0, 0) _ H1.out Tryd.underlying24 rfl (rmatInfo m) ?_)
  refine (theirs_any m _).mono ?_
  rintro e w2 ⟨rfl, hb2⟩
  have HS := Lib.hid (st_first HT.out hb1 hb2)
  clear hb1 hb2 H1
  go_wp2_with (first
    | (refine wpList_store_row rfl 28 (.tmp 7) (.tmp 17) rfl w2.heap.size (matA m) rfl rfl 28 _ (heap_alloc_new _ _) (matInfo _) (by rw [matA_size]; rfl) (matA_one _) ?_; rw [World.setRow_alloc_new])
    | (refine wpList_load_row rfl 28 (.tmp 7) rfl w2.heap.size rfl 28 (matA m) (0, 0) _ HS.out.theirs Tryd.underlying28 rfl (matInfo _) ?_))
  refine (HPut.out _).mono ?_
  rintro e w3 ⟨rfl, hb3⟩
  have HS3 := Lib.hid ((HS.out.below hb3).alloc (.cells (matA n) 28))
  have HN3 := Lib.hid (matAt_new w3 n 28)
  clear hb3 HS
  go_wp2_with (first
    | (refine wpList_store_row rfl 28 (.tmp 10) (.tmp 29) rfl w3.heap.size (matA n) rfl rfl 28 _ (heap_alloc_new _ _) (matInfo _) (by rw [matA_size]; rfl) (matA_one _) ?_; rw [World.setRow_alloc_new])
    | (refine wpList_load_row rfl 28 (.tmp 7) rfl w2.heap.size rfl 28 (matA m) (0, 0) _ HS3.out.theirs Tryd.underlying28 rfl (matInfo _) ?_))
  refine (cut_in m y _ hm hy32).mono ?_
  rintro e w4 ⟨rfl, hb4⟩
  have HS4 := Lib.hid ((HS3.out.below hb4).alloc (.cells (matA (Mm.cut m y)) 28))
  have HN4 := Lib.hid ((HN3.out.below hb4).alloc (.cells (matA (Mm.cut m y)) 28))
  have HC4 := Lib.hid (matAt_new w4 (Mm.cut m y) 28)
  clear hb4 HS3 HN3
  have HZ := Lib.hid (S3.mk HS4.out HN4.out HC4.out)
  clear HS4 HN4 HC4
  go_wp2_with (first
    | (refine wpList_store_row rfl 28 (.tmp 12) (.tmp 33) rfl w4.heap.size (matA (Mm.cut m y)) rfl rfl 28 _ (heap_alloc_new _ _) (matInfo _) (by rw [matA_size]; rfl) (matA_one _) ?_; rw [World.setRow_alloc_new]))
  go_loopw [34] (GrowsRel w w2.heap.size m w3.heap.size n w4.heap.size (Mm.cut m y)) (fun i _ => 32 - (intOf i).toNat)
  case atStart => exact ⟨0, by omega, rfl, HZ.out⟩
  case round =>
    obtain ⟨k, hk, rfl, hZ⟩ := hrel
    have HZr := Lib.hid hZ
    clear hZ HZ
    by_cases hlt : k < 32
    · have j1 := k1.out k
      have j2 := k2.out k
      go_wp2_with fail
      refine wp_region_noPanic ?_
      refine region_start (S := S3 w w2.heap.size m w3.heap.size n w4.heap.size (Mm.cut m y)) 18 rfl (by kernel_rfl) (HZr.out.drew) (fun hHeld => ?_)
      refine take_at 0 37 (.agg (matA m)) rfl rfl (by kernel_rfl) (by kernel_rfl) (by kernel_rfl) (fun _ _ _ h => h) (yields_mat (by rfl) 28 (.tmp 7) rfl (w2.heap.size) rfl 28 m (fun W h => h.st.theirs) Tryd.underlying28 (matInfo _)) hHeld ?_
      simp only [Act.put, List.setIfInBounds_toArray, List.set_cons_zero, List.set_cons_succ]
      refine take_at 1 38 (.int .i64 (k : Nat)) rfl rfl (by kernel_rfl) (by kernel_rfl) (by kernel_rfl) (fun _ _ _ h => h) (Or.inl ⟨by rfl, by intro W hW; clear hW; go_simp⟩) hHeld ?_
      simp only [Act.put, List.setIfInBounds_toArray, List.set_cons_zero, List.set_cons_succ]
      refine take_at 3 40 (.agg (matA n)) rfl rfl (by kernel_rfl) (by kernel_rfl) (by kernel_rfl) (fun _ _ _ h => h) (yields_mat (by rfl) 28 (.tmp 10) rfl (w3.heap.size) rfl 28 n (fun W h => h.two) Tryd.underlying28 (matInfo _)) hHeld ?_
      simp only [Act.put, List.setIfInBounds_toArray, List.set_cons_zero, List.set_cons_succ]
      refine take_at 4 41 (.int .i64 (k : Nat)) rfl rfl (by kernel_rfl) (by kernel_rfl) (by kernel_rfl) (fun _ _ _ h => h) (Or.inl ⟨by rfl, by intro W hW; clear hW; go_simp⟩) hHeld ?_
      simp only [Act.put, List.setIfInBounds_toArray, List.set_cons_zero, List.set_cons_succ]
      refine wpAnyH_ready (rs := [2]) (by kernel_rfl) (by simp) ?_
      refine AllReadyH.cons rfl (fun K hK => ?_) AllReadyH.nil
      go_simp
      refine (reach_in m k _ hm hlt hHeld.st.tab).mono ?_
      rintro e w5 ⟨rfl, hbb⟩
      try go_simp
      have hHeld := hHeld.below hbb
      refine hK.out _ _ hHeld (fun hHeld => ?_)
      clear hK K hbb
      refine wpAnyH_ready (rs := [5]) (by kernel_rfl) (by simp) ?_
      refine AllReadyH.cons rfl (fun K hK => ?_) AllReadyH.nil
      go_simp
      refine (reach_in n k _ hn hlt hHeld.st.tab).mono ?_
      rintro e w6 ⟨rfl, hbb⟩
      try go_simp
      have hHeld := hHeld.below hbb
      refine hK.out _ _ hHeld (fun hHeld => ?_)
      clear hK K hbb
      refine take_at 6 43 (.int .u64 0) rfl rfl (by kernel_rfl) (by kernel_rfl) (by kernel_rfl) (fun _ _ _ h => h) (Or.inl ⟨by rfl, by intro W hW; clear hW; go_simp⟩) hHeld ?_
      simp only [Act.put, List.setIfInBounds_toArray, List.set_cons_zero, List.set_cons_succ]
      refine take_at 7 44 (.bool false) rfl rfl (by kernel_rfl) (by kernel_rfl) (by kernel_rfl) (fun _ _ _ h => h) (Or.inl ⟨by rfl, by intro W hW; clear hW; go_simp⟩) hHeld ?_
      simp only [Act.put, List.setIfInBounds_toArray, List.set_cons_zero, List.set_cons_succ]
      refine take_at 8 45 (.bool false) rfl rfl (by kernel_rfl) (by kernel_rfl) (by kernel_rfl) (fun _ _ _ h => h) (Or.inl ⟨by rfl, by intro W hW; clear hW; go_simp⟩) hHeld ?_
      simp only [Act.put, List.setIfInBounds_toArray, List.set_cons_zero, List.set_cons_succ]
      refine take_at 9 46 (.agg (matA (Mm.cut m y))) rfl rfl (by kernel_rfl) (by kernel_rfl) (by kernel_rfl) (fun _ _ _ h => h) (yields_mat (by rfl) 28 (.tmp 12) rfl (w4.heap.size) rfl 28 (Mm.cut m y) (fun W h => h.three) Tryd.underlying28 (matInfo _)) hHeld ?_
      simp only [Act.put, List.setIfInBounds_toArray, List.set_cons_zero, List.set_cons_succ]
      refine take_at 10 47 (.int .i64 (k : Nat)) rfl rfl (by kernel_rfl) (by kernel_rfl) (by kernel_rfl) (fun _ _ _ h => h) (Or.inl ⟨by rfl, by intro W hW; clear hW; go_simp⟩) hHeld ?_
      simp only [Act.put, List.setIfInBounds_toArray, List.set_cons_zero, List.set_cons_succ]
      refine take_at 12 49 (.agg (matA m)) rfl rfl (by kernel_rfl) (by kernel_rfl) (by kernel_rfl) (fun _ _ _ h => h) (yields_mat (by rfl) 28 (.tmp 7) rfl (w2.heap.size) rfl 28 m (fun W h => h.st.theirs) Tryd.underlying28 (matInfo _)) hHeld ?_
      simp only [Act.put, List.setIfInBounds_toArray, List.set_cons_zero, List.set_cons_succ]
      refine take_at 13 50 (.int .i64 (k : Nat)) rfl rfl (by kernel_rfl) (by kernel_rfl) (by kernel_rfl) (fun _ _ _ h => h) (Or.inl ⟨by rfl, by intro W hW; clear hW; go_simp⟩) hHeld ?_
      simp only [Act.put, List.setIfInBounds_toArray, List.set_cons_zero, List.set_cons_succ]
      refine wpAnyH_ready (rs := [11]) (by kernel_rfl) (by simp) ?_
      refine AllReadyH.cons rfl (fun K hK => ?_) AllReadyH.nil
      go_simp
      refine (reach_in (Mm.cut m y) k _ HO.out hlt hHeld.st.tab).mono ?_
      rintro e w7 ⟨rfl, hbb⟩
      try go_simp
      have hHeld := hHeld.below hbb
      refine hK.out _ _ hHeld (fun hHeld => ?_)
      clear hK K hbb
      refine wpAnyH_ready (rs := [14]) (by kernel_rfl) (by simp) ?_
      refine AllReadyH.cons rfl (fun K hK => ?_) AllReadyH.nil
      go_simp
      refine (reach_in m k _ hm hlt hHeld.st.tab).mono ?_
      rintro e w8 ⟨rfl, hbb⟩
      try go_simp
      have hHeld := hHeld.below hbb
      refine hK.out _ _ hHeld (fun hHeld => ?_)
      clear hK K hbb
      refine take_at 15 52 (.int .u64 0) rfl rfl (by kernel_rfl) (by kernel_rfl) (by kernel_rfl) (fun _ _ _ h => h) (Or.inl ⟨by rfl, by intro W hW; clear hW; go_simp⟩) hHeld ?_
      simp only [Act.put, List.setIfInBounds_toArray, List.set_cons_zero, List.set_cons_succ]
      refine take_at 16 53 (.bool false) rfl rfl (by kernel_rfl) (by kernel_rfl) (by kernel_rfl) (fun _ _ _ h => h) (Or.inl ⟨by rfl, by intro W hW; clear hW; go_simp⟩) hHeld ?_
      simp only [Act.put, List.setIfInBounds_toArray, List.set_cons_zero, List.set_cons_succ]
      refine take_at 17 54 (.bool false) rfl rfl (by kernel_rfl) (by kernel_rfl) (by kernel_rfl) (fun _ _ _ h => h) (Or.inl ⟨by rfl, by intro W hW; clear hW; go_simp⟩) hHeld ?_
      simp only [Act.put, List.setIfInBounds_toArray, List.set_cons_zero, List.set_cons_succ]
      refine wpAnyH_done (by kernel_rfl) ?_ _
      refine NoPanic.normal ?_
      go_wp2
      exact ⟨⟨k + 1, by omega, by go_num, hHeld⟩, by simp [intOf]; omega⟩
    · obtain rfl : k = 32 := by omega
      have hwl := Mm.ways_lt (Mm.E n) x
      go_wp2_with (first
        | (refine wpList_load_want rfl 28 (.tmp 10) rfl w3.heap.size rfl 28 (matA n) (0, 0) _ _ HZr.out.two Tryd.underlying28 (matInfo _) ?_))
      refine (reach_in n x _ hn hx32 HZr.out.st.tab).mono ?_
      rintro e w9 ⟨rfl, hb9⟩
      go_wp2_with fail
      refine (has_val _ _ _ _ hwl (by omega) hh.out).mono ?_
      rintro e w' ⟨rfl, rfl⟩
      go_wp2
      go_ret
      exact ⟨rfl, (HZr.out.st.below hb9).bel⟩
theorem matGrows_any (m : Mm.Gr) (a b : Nat) (w : World) (hm : Mm.Ok m) (ha : a < 256) (hb : b < 256) (hT : TabAt w) :
    Calls Tryd.prog 8 #[.agg (matA m), .int .u8 (a : Nat), .int .u8 (b : Nat)] w fun e w' => e = .returned (.bool true) ∧ Below w.heap.size w w' := by
  have hx32 : a % 32 < 32 := Nat.mod_lt _ (by decide)
  have hy32 : b % 32 < 32 := Nat.mod_lt _ (by decide)
  have hx := tmod32 a
  have hy := tmod32 b
  generalize a % 32 = x at *
  generalize b % 32 = y at *
  have k2 : ∀ i, bits .andNot .u64 ((Mm.ways (Mm.E (Mm.cut m y)) i : Nat) : Int) ((Mm.ways (Mm.E m) i : Nat) : Int) = 0 := fun i => none_over (Mm.ways_lt32 _ _) (Mm.ways_lt32 _ _) fun j hj => by
    obtain ⟨h1, h2⟩ := (Mm.ways_test _ _ _).1 hj
    exact (Mm.ways_test _ _ _).2 ⟨h1, Mm.cut_down hm hy32 h2⟩
  by_cases hne : x = y
  · subst hne
    exact grows_same m m a b x w hm hm ha hb hx hy hx32 hT (fun W => put_no3 m x W hx32) (Lib.hid fun i => none_over (Mm.ways_lt32 _ _) (Mm.ways_lt32 _ _) fun j hj => hj) (Lib.hid k2)
  · refine grows_other m (Mm.put m x y) a b x y w hm (Mm.put_ok x y hm) ha hb hx hy hx32 hy32 (by simp; omega) hT (fun W => put_yes m x y W hm hx32 hy32 hne) (Lib.hid fun i => none_over (Mm.ways_lt32 _ _) (Mm.ways_lt32 _ _) fun j hj => ?_) (Lib.hid k2) (Lib.hid ?_)
    · obtain ⟨h1, h2⟩ := (Mm.ways_test _ _ _).1 hj
      exact (Mm.ways_test _ _ _).2 ⟨h1, Mm.put_up hx32 hy32 h2⟩
    · exact (Mm.ways_test _ _ _).2 ⟨hy32, .one ((Mm.put_E hx32 hy32 _ _).2 (.inr ⟨rfl, rfl⟩))⟩
end Go.Proofs.YtjciikdhjgekgaaDoor
