/-
  The walk of MatTells.
-/
import Derived.Test.YtjciikdhjgekgaaDoorMatLaw
import Derived.Test.YtjciikdhjgekgaaDoorMatRef3
namespace Go.Proofs.YtjciikdhjgekgaaDoor
open Go.RowKit
attribute [local go_sem ↓] Go.wp_at_zero Go.wp_at_succ
/-- both graphs with the edge beside it. -/
structure ST (w : World) (g : Nat) (m : Mm.Gr) (g' g'' : Nat) (n : Mm.Gr) (W : World) : Prop where
  st : St w g m W
  two : MatAt W g' n 28
  three : MatAt W g'' n 24
theorem ST.below {w W W' : World} {g g' g'' : Nat} {m n : Mm.Gr} (h : ST w g m g' g'' n W) (hb : Below W.heap.size W W') : ST w g m g' g'' n W' := ⟨h.st.below hb, h.two.below hb, h.three.below hb⟩
theorem ST.drew {w W : World} {g g' g'' : Nat} {m n : Mm.Gr} (h : ST w g m g' g'' n W) : ST w g m g' g'' n W.drew := h.below (below_drew W)
theorem routs_turn (m : Mm.Gr) (a : Nat) (w : World) (ha : a < 32) :
    Calls Tryd.prog 20 #[.agg (matA (turn m)), .int .i64 (a : Nat)] w fun e w' => e = .returned (.int .u64 (Mm.ins m a : Nat)) ∧ Below w.heap.size w w' := by
  have := routs_in (turn m) a w (turn_ok m) ha
  rw [turn_outs] at this
  exact this
theorem mhas_out (m : Mm.Gr) (a : Nat) (b : Int) (w : World) (hm : Mm.Ok m) (ha : a < 32) (hb : Far b) :
    Calls Tryd.prog 17 #[.agg (matA m), .int .i64 (a : Nat), .int .i64 b] w fun e w' => e = .returned (.bool false) ∧ Below w.heap.size w w' := by
  have h := mhas_in m a b w hm ha hb.1.1 hb.1.2
  have e : edge m (a : Nat) b = false := by
    rw [← edge_in]
    by_cases h0 : 0 ≤ b
    · rw [Sm.has_eq b h0 (by have := Mm.outs_lt m a; omega)]
      cases hq : (Mm.outs m a).testBit b.toNat
      · rfl
      · have := Mm.test32 (Mm.outs_lt m a) hq
        have := hb.2
        omega
    · exact Sm.has_neg (by omega)
  rw [e] at h
  exact h
theorem same_self (m : Mm.Gr) : sameM m m = true := (sameM_iff m m).2 fun _ _ => rfl
set_option maxHeartbeats 4000000 in
set_option maxRecDepth 100000 in
theorem tells_edge (m : Mm.Gr) (a b : Nat) (ha : a < 32) (hb : b < 32) (hab : a ≠ b) (w : World) (hm : Mm.Ok m) (hT : TabAt w) :
    Calls Tryd.prog 3 #[.agg (matA m), .int .i64 (a : Nat), .int .i64 (b : Nat)] w fun e w' => e = .returned (.bool true) ∧ Below w.heap.size w w' := by
  have HE1 := Lib.hid (eq_rmat (Mm.put m a b) (Mm.put m a b) true (same_self _))
  have HE2 := Lib.hid (eq_rmat (Mm.cut m a) (Mm.cut m a) true (same_self _))
  have HT := Lib.hid hT
  clear hT
  go_enter Tryd.func3, Tryd.ntmps3
  go_wp2_with fail
  refine (alive_any _ (tabAt_new HT.out _)).mono ?_
  rintro e w1 ⟨rfl, hb1⟩
  have H1 := Lib.hid ((matAt_new w m 24).below hb1)
  go_wp2_with (refine wpList_load_row rfl 24 (.tmp 3) rfl w.heap.size rfl 24 (matA m) (0, 0) _ H1.out Tryd.underlying24 rfl (rmatInfo m) ?_)
  refine (theirs_any m _).mono ?_
  rintro e w2 ⟨rfl, hb2⟩
  have HS := Lib.hid (st_first HT.out hb1 hb2)
  clear hb1 hb2 H1
  go_wp2_with (first
    | (refine wpList_store_row rfl 28 (.tmp 7) (.tmp 15) rfl w2.heap.size (matA m) rfl rfl 28 _ (heap_alloc_new _ _) (matInfo _) (by rw [matA_size]; rfl) (matA_one _) ?_; rw [World.setRow_alloc_new])
    | (refine wpList_load_row rfl 28 (.tmp 7) rfl w2.heap.size rfl 28 (matA m) (0, 0) _ HS.out.theirs Tryd.underlying28 rfl (matInfo _) ?_))
  refine (put_yes m a b _ hm ha hb hab).mono ?_
  rintro e w3 ⟨rfl, hb3⟩
  have HS3 := Lib.hid ((HS.out.below hb3).alloc (.cells (matA (Mm.put m a b)) 28))
  have HN3 := Lib.hid (matAt_new w3 (Mm.put m a b) 28)
  clear hb3 HS
  go_wp2_with (first
    | (refine wpList_store_row rfl 28 (.tmp 8) (.tmp 21) rfl w3.heap.size (matA (Mm.put m a b)) rfl rfl 28 _ (heap_alloc_new _ _) (matInfo _) (by rw [matA_size]; rfl) (matA_one _) ?_; rw [World.setRow_alloc_new])
    | (refine wpList_load_row rfl 24 (.tmp 3) rfl w.heap.size rfl 24 (matA m) (0, 0) _ HS3.out.ours Tryd.underlying24 rfl (rmatInfo _) ?_))
  refine (rput_yes m a b _ hm ha hb hab).mono ?_
  rintro e w4 ⟨rfl, hb4⟩
  have HZ := Lib.hid (ST.mk ((HS3.out.below hb4).alloc (.cells (matA (Mm.put m a b)) 24)) ((HN3.out.below hb4).alloc (.cells (matA (Mm.put m a b)) 24)) (matAt_new w4 (Mm.put m a b) 24))
  clear hb4 HS3 HN3
  have hE1 := HE1.out
  have hE2 := HE2.out
  go_wp2_with (first
    | (refine wpList_store_row rfl 24 (.tmp 10) (.tmp 28) rfl w4.heap.size (matA (Mm.put m a b)) rfl rfl 24 _ (heap_alloc_new _ _) (rmatInfo _) (by rw [matA_size]; rfl) (matA_one _) ?_; rw [World.setRow_alloc_new]))
  refine wp_region_noPanic ?_
  refine region_start (S := ST w w2.heap.size m w3.heap.size w4.heap.size (Mm.put m a b)) 50 rfl (by kernel_rfl) (HZ.out.drew) (fun hHeld => ?_)
  refine take_at 0 30 (.agg (matA (Mm.put m a b))) rfl rfl (by kernel_rfl) (by kernel_rfl) (by kernel_rfl) (fun _ _ _ h => h) (yields_mat (by rfl) 28 (.tmp 8) rfl (w3.heap.size) rfl 28 (Mm.put m a b) (fun W h => h.two) Tryd.underlying28 (matInfo _)) hHeld ?_
  simp only [Act.put, List.setIfInBounds_toArray, List.set_cons_zero, List.set_cons_succ]
  refine take_at 2 32 (.agg (matA (Mm.put m a b))) rfl rfl (by kernel_rfl) (by kernel_rfl) (by kernel_rfl) (fun _ _ _ h => h) (yields_mat (by rfl) 24 (.tmp 10) rfl (w4.heap.size) rfl 24 (Mm.put m a b) (fun W h => h.three) Tryd.underlying24 (rmatInfo _)) hHeld ?_
  simp only [Act.put, List.setIfInBounds_toArray, List.set_cons_zero, List.set_cons_succ]
  refine wpAnyH_ready (rs := [1]) (by kernel_rfl) (by simp) ?_
  refine AllReadyH.cons rfl (fun K hK => ?_) AllReadyH.nil
  go_simp
  refine (ours_any (Mm.put m a b) _).mono ?_
  rintro e w5 ⟨rfl, hbb⟩
  try go_simp
  have hHeld := hHeld.below hbb
  refine hK.out _ _ hHeld (fun hHeld => ?_)
  clear hK K hbb
  refine take_at 3 33 (.bool true) rfl rfl (by kernel_rfl) (by kernel_rfl) (by kernel_rfl) (fun _ _ _ h => h) (Or.inl ⟨by rfl, by intro W hW; clear hW; go_simp⟩) hHeld ?_
  simp only [Act.put, List.setIfInBounds_toArray, List.set_cons_zero, List.set_cons_succ]
  refine take_at 4 34 (.bool true) rfl rfl (by kernel_rfl) (by kernel_rfl) (by kernel_rfl) (fun _ _ _ h => h) (Or.inl ⟨by rfl, by intro W hW; clear hW; go_simp⟩) hHeld ?_
  simp only [Act.put, List.setIfInBounds_toArray, List.set_cons_zero, List.set_cons_succ]
  refine take_at 5 35 (.bool true) rfl rfl (by kernel_rfl) (by kernel_rfl) (by kernel_rfl) (fun _ _ _ h => h) (Or.inl ⟨by rfl, by intro W hW; clear hW; go_simp⟩) hHeld ?_
  simp only [Act.put, List.setIfInBounds_toArray, List.set_cons_zero, List.set_cons_succ]
  refine take_at 6 36 (.bool true) rfl rfl (by kernel_rfl) (by kernel_rfl) (by kernel_rfl) (fun _ _ _ h => h) (Or.inl ⟨by rfl, by intro W hW; clear hW; go_simp⟩) hHeld ?_
  simp only [Act.put, List.setIfInBounds_toArray, List.set_cons_zero, List.set_cons_succ]
  refine take_at 7 37 (.bool true) rfl rfl (by kernel_rfl) (by kernel_rfl) (by kernel_rfl) (fun _ _ _ h => h) (Or.inl ⟨by rfl, by intro W hW; clear hW; go_simp⟩) hHeld ?_
  simp only [Act.put, List.setIfInBounds_toArray, List.set_cons_zero, List.set_cons_succ]
  refine take_at 8 38 (.bool true) rfl rfl (by kernel_rfl) (by kernel_rfl) (by kernel_rfl) (fun _ _ _ h => h) (Or.inl ⟨by rfl, by intro W hW; clear hW; go_simp⟩) hHeld ?_
  simp only [Act.put, List.setIfInBounds_toArray, List.set_cons_zero, List.set_cons_succ]
  refine take_at 9 39 (.bool true) rfl rfl (by kernel_rfl) (by kernel_rfl) (by kernel_rfl) (fun _ _ _ h => h) (Or.inl ⟨by rfl, by intro W hW; clear hW; go_simp⟩) hHeld ?_
  simp only [Act.put, List.setIfInBounds_toArray, List.set_cons_zero, List.set_cons_succ]
  refine take_at 10 40 (.agg (matA m)) rfl rfl (by kernel_rfl) (by kernel_rfl) (by kernel_rfl) (fun _ _ _ h => h) (yields_mat (by rfl) 28 (.tmp 7) rfl (w2.heap.size) rfl 28 m (fun W h => h.st.theirs) Tryd.underlying28 (matInfo _)) hHeld ?_
  simp only [Act.put, List.setIfInBounds_toArray, List.set_cons_zero, List.set_cons_succ]
  refine take_at 11 41 (.int .i64 (a : Nat)) rfl rfl (by kernel_rfl) (by kernel_rfl) (by kernel_rfl) (fun _ _ _ h => h) (Or.inl ⟨by rfl, by intro W hW; clear hW; go_simp⟩) hHeld ?_
  simp only [Act.put, List.setIfInBounds_toArray, List.set_cons_zero, List.set_cons_succ]
  refine take_at 14 44 (.agg (matA m)) rfl rfl (by kernel_rfl) (by kernel_rfl) (by kernel_rfl) (fun _ _ _ h => h) (yields_mat (by rfl) 24 (.tmp 3) rfl (w.heap.size) rfl 24 m (fun W h => h.st.ours) Tryd.underlying24 (rmatInfo _)) hHeld ?_
  simp only [Act.put, List.setIfInBounds_toArray, List.set_cons_zero, List.set_cons_succ]
  refine take_at 15 45 (.int .i64 (a : Nat)) rfl rfl (by kernel_rfl) (by kernel_rfl) (by kernel_rfl) (fun _ _ _ h => h) (Or.inl ⟨by rfl, by intro W hW; clear hW; go_simp⟩) hHeld ?_
  simp only [Act.put, List.setIfInBounds_toArray, List.set_cons_zero, List.set_cons_succ]
  refine wpAnyH_ready (rs := [12]) (by kernel_rfl) (by simp) ?_
  refine AllReadyH.cons rfl (fun K hK => ?_) AllReadyH.nil
  go_simp
  refine (cut_in m a _ hm ha).mono ?_
  rintro e w6 ⟨rfl, hbb⟩
  try go_simp
  have hHeld := hHeld.below hbb
  refine hK.out _ _ hHeld (fun hHeld => ?_)
  clear hK K hbb
  refine wpAnyH_ready (rs := [13]) (by kernel_rfl) (by simp) ?_
  refine AllReadyH.cons rfl (fun K hK => ?_) AllReadyH.nil
  go_simp
  refine (ours_any (Mm.cut m a) _).mono ?_
  rintro e w7 ⟨rfl, hbb⟩
  try go_simp
  have hHeld := hHeld.below hbb
  refine hK.out _ _ hHeld (fun hHeld => ?_)
  clear hK K hbb
  refine wpAnyH_ready (rs := [16]) (by kernel_rfl) (by simp) ?_
  refine AllReadyH.cons rfl (fun K hK => ?_) AllReadyH.nil
  go_simp
  refine (rcut_in m a _ hm ha).mono ?_
  rintro e w8 ⟨rfl, hbb⟩
  try go_simp
  have hHeld := hHeld.below hbb
  refine hK.out _ _ hHeld (fun hHeld => ?_)
  clear hK K hbb
  refine take_at 17 47 (.bool true) rfl rfl (by kernel_rfl) (by kernel_rfl) (by kernel_rfl) (fun _ _ _ h => h) (Or.inl ⟨by rfl, by intro W hW; clear hW; go_simp⟩) hHeld ?_
  simp only [Act.put, List.setIfInBounds_toArray, List.set_cons_zero, List.set_cons_succ]
  refine take_at 18 48 (.bool true) rfl rfl (by kernel_rfl) (by kernel_rfl) (by kernel_rfl) (fun _ _ _ h => h) (Or.inl ⟨by rfl, by intro W hW; clear hW; go_simp⟩) hHeld ?_
  simp only [Act.put, List.setIfInBounds_toArray, List.set_cons_zero, List.set_cons_succ]
  refine take_at 19 49 (.bool true) rfl rfl (by kernel_rfl) (by kernel_rfl) (by kernel_rfl) (fun _ _ _ h => h) (Or.inl ⟨by rfl, by intro W hW; clear hW; go_simp⟩) hHeld ?_
  simp only [Act.put, List.setIfInBounds_toArray, List.set_cons_zero, List.set_cons_succ]
  refine take_at 20 50 (.agg (matA m)) rfl rfl (by kernel_rfl) (by kernel_rfl) (by kernel_rfl) (fun _ _ _ h => h) (yields_mat (by rfl) 28 (.tmp 7) rfl (w2.heap.size) rfl 28 m (fun W h => h.st.theirs) Tryd.underlying28 (matInfo _)) hHeld ?_
  simp only [Act.put, List.setIfInBounds_toArray, List.set_cons_zero, List.set_cons_succ]
  refine take_at 21 51 (.int .i64 (a : Nat)) rfl rfl (by kernel_rfl) (by kernel_rfl) (by kernel_rfl) (fun _ _ _ h => h) (Or.inl ⟨by rfl, by intro W hW; clear hW; go_simp⟩) hHeld ?_
  simp only [Act.put, List.setIfInBounds_toArray, List.set_cons_zero, List.set_cons_succ]
  refine take_at 22 52 (.int .i64 (b : Nat)) rfl rfl (by kernel_rfl) (by kernel_rfl) (by kernel_rfl) (fun _ _ _ h => h) (Or.inl ⟨by rfl, by intro W hW; clear hW; go_simp⟩) hHeld ?_
  simp only [Act.put, List.setIfInBounds_toArray, List.set_cons_zero, List.set_cons_succ]
  refine take_at 24 54 (.agg (matA m)) rfl rfl (by kernel_rfl) (by kernel_rfl) (by kernel_rfl) (fun _ _ _ h => h) (yields_mat (by rfl) 24 (.tmp 3) rfl (w.heap.size) rfl 24 m (fun W h => h.st.ours) Tryd.underlying24 (rmatInfo _)) hHeld ?_
  simp only [Act.put, List.setIfInBounds_toArray, List.set_cons_zero, List.set_cons_succ]
  refine take_at 25 55 (.int .i64 (a : Nat)) rfl rfl (by kernel_rfl) (by kernel_rfl) (by kernel_rfl) (fun _ _ _ h => h) (Or.inl ⟨by rfl, by intro W hW; clear hW; go_simp⟩) hHeld ?_
  simp only [Act.put, List.setIfInBounds_toArray, List.set_cons_zero, List.set_cons_succ]
  refine take_at 26 56 (.int .i64 (b : Nat)) rfl rfl (by kernel_rfl) (by kernel_rfl) (by kernel_rfl) (fun _ _ _ h => h) (Or.inl ⟨by rfl, by intro W hW; clear hW; go_simp⟩) hHeld ?_
  simp only [Act.put, List.setIfInBounds_toArray, List.set_cons_zero, List.set_cons_succ]
  refine wpAnyH_ready (rs := [23]) (by kernel_rfl) (by simp) ?_
  refine AllReadyH.cons rfl (fun K hK => ?_) AllReadyH.nil
  go_simp
  refine (mhas_in m a (b : Nat) _ hm ha (by omega) (by omega)).mono ?_
  rintro e w9 ⟨rfl, hbb⟩
  try go_simp
  have hHeld := hHeld.below hbb
  refine hK.out _ _ hHeld (fun hHeld => ?_)
  clear hK K hbb
  refine wpAnyH_ready (rs := [27]) (by kernel_rfl) (by simp) ?_
  refine AllReadyH.cons rfl (fun K hK => ?_) AllReadyH.nil
  go_simp
  refine (rmhas_in m a b _ hm ha hb).mono ?_
  rintro e w10 ⟨rfl, hbb⟩
  try go_simp
  have hHeld := hHeld.below hbb
  refine hK.out _ _ hHeld (fun hHeld => ?_)
  clear hK K hbb
  refine take_at 28 58 (.bool true) rfl rfl (by kernel_rfl) (by kernel_rfl) (by kernel_rfl) (fun _ _ _ h => h) (Or.inl ⟨by rfl, by intro W hW; clear hW; go_simp⟩) hHeld ?_
  simp only [Act.put, List.setIfInBounds_toArray, List.set_cons_zero, List.set_cons_succ]
  refine take_at 29 59 (.bool true) rfl rfl (by kernel_rfl) (by kernel_rfl) (by kernel_rfl) (fun _ _ _ h => h) (Or.inl ⟨by rfl, by intro W hW; clear hW; go_simp⟩) hHeld ?_
  simp only [Act.put, List.setIfInBounds_toArray, List.set_cons_zero, List.set_cons_succ]
  refine take_at 30 60 (.bool true) rfl rfl (by kernel_rfl) (by kernel_rfl) (by kernel_rfl) (fun _ _ _ h => h) (Or.inl ⟨by rfl, by intro W hW; clear hW; go_simp⟩) hHeld ?_
  simp only [Act.put, List.setIfInBounds_toArray, List.set_cons_zero, List.set_cons_succ]
  refine take_at 31 61 (.agg (matA m)) rfl rfl (by kernel_rfl) (by kernel_rfl) (by kernel_rfl) (fun _ _ _ h => h) (yields_mat (by rfl) 28 (.tmp 7) rfl (w2.heap.size) rfl 28 m (fun W h => h.st.theirs) Tryd.underlying28 (matInfo _)) hHeld ?_
  simp only [Act.put, List.setIfInBounds_toArray, List.set_cons_zero, List.set_cons_succ]
  refine take_at 32 62 (.int .i64 (a : Nat)) rfl rfl (by kernel_rfl) (by kernel_rfl) (by kernel_rfl) (fun _ _ _ h => h) (Or.inl ⟨by rfl, by intro W hW; clear hW; go_simp⟩) hHeld ?_
  simp only [Act.put, List.setIfInBounds_toArray, List.set_cons_zero, List.set_cons_succ]
  refine take_at 34 64 (.agg (matA m)) rfl rfl (by kernel_rfl) (by kernel_rfl) (by kernel_rfl) (fun _ _ _ h => h) (yields_mat (by rfl) 24 (.tmp 3) rfl (w.heap.size) rfl 24 m (fun W h => h.st.ours) Tryd.underlying24 (rmatInfo _)) hHeld ?_
  simp only [Act.put, List.setIfInBounds_toArray, List.set_cons_zero, List.set_cons_succ]
  refine take_at 35 65 (.int .i64 (a : Nat)) rfl rfl (by kernel_rfl) (by kernel_rfl) (by kernel_rfl) (fun _ _ _ h => h) (Or.inl ⟨by rfl, by intro W hW; clear hW; go_simp⟩) hHeld ?_
  simp only [Act.put, List.setIfInBounds_toArray, List.set_cons_zero, List.set_cons_succ]
  refine wpAnyH_ready (rs := [33]) (by kernel_rfl) (by simp) ?_
  refine AllReadyH.cons rfl (fun K hK => ?_) AllReadyH.nil
  go_simp
  refine (outs_in m a _ hm ha).mono ?_
  rintro e w11 ⟨rfl, hbb⟩
  try go_simp
  have hHeld := hHeld.below hbb
  refine hK.out _ _ hHeld (fun hHeld => ?_)
  clear hK K hbb
  refine wpAnyH_ready (rs := [36]) (by kernel_rfl) (by simp) ?_
  refine AllReadyH.cons rfl (fun K hK => ?_) AllReadyH.nil
  go_simp
  refine (routs_in m a _ hm ha).mono ?_
  rintro e w12 ⟨rfl, hbb⟩
  try go_simp
  have hHeld := hHeld.below hbb
  refine hK.out _ _ hHeld (fun hHeld => ?_)
  clear hK K hbb
  refine take_at 37 67 (.bool true) rfl rfl (by kernel_rfl) (by kernel_rfl) (by kernel_rfl) (fun _ _ _ h => h) (Or.inl ⟨by rfl, by intro W hW; clear hW; go_simp⟩) hHeld ?_
  simp only [Act.put, List.setIfInBounds_toArray, List.set_cons_zero, List.set_cons_succ]
  refine take_at 38 68 (.bool true) rfl rfl (by kernel_rfl) (by kernel_rfl) (by kernel_rfl) (fun _ _ _ h => h) (Or.inl ⟨by rfl, by intro W hW; clear hW; go_simp⟩) hHeld ?_
  simp only [Act.put, List.setIfInBounds_toArray, List.set_cons_zero, List.set_cons_succ]
  refine take_at 39 69 (.bool true) rfl rfl (by kernel_rfl) (by kernel_rfl) (by kernel_rfl) (fun _ _ _ h => h) (Or.inl ⟨by rfl, by intro W hW; clear hW; go_simp⟩) hHeld ?_
  simp only [Act.put, List.setIfInBounds_toArray, List.set_cons_zero, List.set_cons_succ]
  refine take_at 40 70 (.agg (matA m)) rfl rfl (by kernel_rfl) (by kernel_rfl) (by kernel_rfl) (fun _ _ _ h => h) (yields_mat (by rfl) 28 (.tmp 7) rfl (w2.heap.size) rfl 28 m (fun W h => h.st.theirs) Tryd.underlying28 (matInfo _)) hHeld ?_
  simp only [Act.put, List.setIfInBounds_toArray, List.set_cons_zero, List.set_cons_succ]
  refine take_at 41 71 (.int .i64 (a : Nat)) rfl rfl (by kernel_rfl) (by kernel_rfl) (by kernel_rfl) (fun _ _ _ h => h) (Or.inl ⟨by rfl, by intro W hW; clear hW; go_simp⟩) hHeld ?_
  simp only [Act.put, List.setIfInBounds_toArray, List.set_cons_zero, List.set_cons_succ]
  refine take_at 43 73 (.agg (matA m)) rfl rfl (by kernel_rfl) (by kernel_rfl) (by kernel_rfl) (fun _ _ _ h => h) (yields_mat (by rfl) 24 (.tmp 3) rfl (w.heap.size) rfl 24 m (fun W h => h.st.ours) Tryd.underlying24 (rmatInfo _)) hHeld ?_
  simp only [Act.put, List.setIfInBounds_toArray, List.set_cons_zero, List.set_cons_succ]
  refine take_at 45 75 (.int .i64 (a : Nat)) rfl rfl (by kernel_rfl) (by kernel_rfl) (by kernel_rfl) (fun _ _ _ h => h) (Or.inl ⟨by rfl, by intro W hW; clear hW; go_simp⟩) hHeld ?_
  simp only [Act.put, List.setIfInBounds_toArray, List.set_cons_zero, List.set_cons_succ]
  refine wpAnyH_ready (rs := [42]) (by kernel_rfl) (by simp) ?_
  refine AllReadyH.cons rfl (fun K hK => ?_) AllReadyH.nil
  go_simp
  refine (ins_in m a _ hm ha).mono ?_
  rintro e w13 ⟨rfl, hbb⟩
  try go_simp
  have hHeld := hHeld.below hbb
  refine hK.out _ _ hHeld (fun hHeld => ?_)
  clear hK K hbb
  refine wpAnyH_ready (rs := [44]) (by kernel_rfl) (by simp) ?_
  refine AllReadyH.cons rfl (fun K hK => ?_) AllReadyH.nil
  go_simp
  refine (turn_any m _ hm).mono ?_
  rintro e w14 ⟨rfl, hbb⟩
  try go_simp
  have hHeld := hHeld.below hbb
  refine hK.out _ _ hHeld (fun hHeld => ?_)
  clear hK K hbb
  refine wpAnyH_ready (rs := [46]) (by kernel_rfl) (by simp) ?_
  refine AllReadyH.cons rfl (fun K hK => ?_) AllReadyH.nil
  go_simp
  refine (routs_turn m a _ ha).mono ?_
  rintro e w15 ⟨rfl, hbb⟩
  try go_simp
  have hHeld := hHeld.below hbb
  refine hK.out _ _ hHeld (fun hHeld => ?_)
  clear hK K hbb
  refine take_at 47 77 (.bool true) rfl rfl (by kernel_rfl) (by kernel_rfl) (by kernel_rfl) (fun _ _ _ h => h) (Or.inl ⟨by rfl, by intro W hW; clear hW; go_simp⟩) hHeld ?_
  simp only [Act.put, List.setIfInBounds_toArray, List.set_cons_zero, List.set_cons_succ]
  refine take_at 48 78 (.bool true) rfl rfl (by kernel_rfl) (by kernel_rfl) (by kernel_rfl) (fun _ _ _ h => h) (Or.inl ⟨by rfl, by intro W hW; clear hW; go_simp⟩) hHeld ?_
  simp only [Act.put, List.setIfInBounds_toArray, List.set_cons_zero, List.set_cons_succ]
  refine take_at 49 6 (.bool true) rfl rfl (by kernel_rfl) (by kernel_rfl) (by kernel_rfl) (fun _ _ _ h => h) (Or.inl ⟨by rfl, by intro W hW; clear hW; go_simp⟩) hHeld ?_
  simp only [Act.put, List.setIfInBounds_toArray, List.set_cons_zero, List.set_cons_succ]
  refine wpAnyH_done (by kernel_rfl) ?_ _
  refine NoPanic.normal ?_
  go_wp2
  go_ret
  exact ⟨rfl, hHeld.st.bel⟩
set_option maxHeartbeats 4000000 in
set_option maxRecDepth 100000 in
theorem tells_same (m : Mm.Gr) (a : Nat) (ha : a < 32) (w : World) (hm : Mm.Ok m) (hT : TabAt w) :
    Calls Tryd.prog 3 #[.agg (matA m), .int .i64 (a : Nat), .int .i64 (a : Nat)] w fun e w' => e = .returned (.bool true) ∧ Below w.heap.size w w' := by
  have HE1 := Lib.hid (eq_rmat m m true (same_self _))
  have HE2 := Lib.hid (eq_rmat (Mm.cut m a) (Mm.cut m a) true (same_self _))
  have HT := Lib.hid hT
  clear hT
  go_enter Tryd.func3, Tryd.ntmps3
  go_wp2_with fail
  refine (alive_any _ (tabAt_new HT.out _)).mono ?_
  rintro e w1 ⟨rfl, hb1⟩
  have H1 := Lib.hid ((matAt_new w m 24).below hb1)
  go_wp2_with (refine wpList_load_row rfl 24 (.tmp 3) rfl w.heap.size rfl 24 (matA m) (0, 0) _ H1.out Tryd.underlying24 rfl (rmatInfo m) ?_)
  refine (theirs_any m _).mono ?_
  rintro e w2 ⟨rfl, hb2⟩
  have HS := Lib.hid (st_first HT.out hb1 hb2)
  clear hb1 hb2 H1
  go_wp2_with (first
    | (refine wpList_store_row rfl 28 (.tmp 7) (.tmp 15) rfl w2.heap.size (matA m) rfl rfl 28 _ (heap_alloc_new _ _) (matInfo _) (by rw [matA_size]; rfl) (matA_one _) ?_; rw [World.setRow_alloc_new])
    | (refine wpList_load_row rfl 28 (.tmp 7) rfl w2.heap.size rfl 28 (matA m) (0, 0) _ HS.out.theirs Tryd.underlying28 rfl (matInfo _) ?_))
  refine (put_no3 m a _ ha).mono ?_
  rintro e w3 ⟨rfl, hb3⟩
  have HS3 := Lib.hid ((HS.out.below hb3).alloc (.cells (matA m) 28))
  have HN3 := Lib.hid (matAt_new w3 m 28)
  clear hb3 HS
  go_wp2_with (first
    | (refine wpList_store_row rfl 28 (.tmp 8) (.tmp 21) rfl w3.heap.size (matA m) rfl rfl 28 _ (heap_alloc_new _ _) (matInfo _) (by rw [matA_size]; rfl) (matA_one _) ?_; rw [World.setRow_alloc_new])
    | (refine wpList_load_row rfl 24 (.tmp 3) rfl w.heap.size rfl 24 (matA m) (0, 0) _ HS3.out.ours Tryd.underlying24 rfl (rmatInfo _) ?_))
  refine (rput_no3 m a _ ha).mono ?_
  rintro e w4 ⟨rfl, hb4⟩
  have HZ := Lib.hid (ST.mk ((HS3.out.below hb4).alloc (.cells (matA m) 24)) ((HN3.out.below hb4).alloc (.cells (matA m) 24)) (matAt_new w4 m 24))
  clear hb4 HS3 HN3
  have hE1 := HE1.out
  have hE2 := HE2.out
  go_wp2_with (first
    | (refine wpList_store_row rfl 24 (.tmp 10) (.tmp 28) rfl w4.heap.size (matA m) rfl rfl 24 _ (heap_alloc_new _ _) (rmatInfo _) (by rw [matA_size]; rfl) (matA_one _) ?_; rw [World.setRow_alloc_new]))
  refine wp_region_noPanic ?_
  refine region_start (S := ST w w2.heap.size m w3.heap.size w4.heap.size m) 50 rfl (by kernel_rfl) (HZ.out.drew) (fun hHeld => ?_)
  refine take_at 0 30 (.agg (matA m)) rfl rfl (by kernel_rfl) (by kernel_rfl) (by kernel_rfl) (fun _ _ _ h => h) (yields_mat (by rfl) 28 (.tmp 8) rfl (w3.heap.size) rfl 28 m (fun W h => h.two) Tryd.underlying28 (matInfo _)) hHeld ?_
  simp only [Act.put, List.setIfInBounds_toArray, List.set_cons_zero, List.set_cons_succ]
  refine take_at 2 32 (.agg (matA m)) rfl rfl (by kernel_rfl) (by kernel_rfl) (by kernel_rfl) (fun _ _ _ h => h) (yields_mat (by rfl) 24 (.tmp 10) rfl (w4.heap.size) rfl 24 m (fun W h => h.three) Tryd.underlying24 (rmatInfo _)) hHeld ?_
  simp only [Act.put, List.setIfInBounds_toArray, List.set_cons_zero, List.set_cons_succ]
  refine wpAnyH_ready (rs := [1]) (by kernel_rfl) (by simp) ?_
  refine AllReadyH.cons rfl (fun K hK => ?_) AllReadyH.nil
  go_simp
  refine (ours_any m _).mono ?_
  rintro e w5 ⟨rfl, hbb⟩
  try go_simp
  have hHeld := hHeld.below hbb
  refine hK.out _ _ hHeld (fun hHeld => ?_)
  clear hK K hbb
  refine take_at 3 33 (.bool true) rfl rfl (by kernel_rfl) (by kernel_rfl) (by kernel_rfl) (fun _ _ _ h => h) (Or.inl ⟨by rfl, by intro W hW; clear hW; go_simp⟩) hHeld ?_
  simp only [Act.put, List.setIfInBounds_toArray, List.set_cons_zero, List.set_cons_succ]
  refine take_at 4 34 (.bool true) rfl rfl (by kernel_rfl) (by kernel_rfl) (by kernel_rfl) (fun _ _ _ h => h) (Or.inl ⟨by rfl, by intro W hW; clear hW; go_simp⟩) hHeld ?_
  simp only [Act.put, List.setIfInBounds_toArray, List.set_cons_zero, List.set_cons_succ]
  refine take_at 5 35 (.bool false) rfl rfl (by kernel_rfl) (by kernel_rfl) (by kernel_rfl) (fun _ _ _ h => h) (Or.inl ⟨by rfl, by intro W hW; clear hW; go_simp⟩) hHeld ?_
  simp only [Act.put, List.setIfInBounds_toArray, List.set_cons_zero, List.set_cons_succ]
  refine take_at 6 36 (.bool false) rfl rfl (by kernel_rfl) (by kernel_rfl) (by kernel_rfl) (fun _ _ _ h => h) (Or.inl ⟨by rfl, by intro W hW; clear hW; go_simp⟩) hHeld ?_
  simp only [Act.put, List.setIfInBounds_toArray, List.set_cons_zero, List.set_cons_succ]
  refine take_at 7 37 (.bool true) rfl rfl (by kernel_rfl) (by kernel_rfl) (by kernel_rfl) (fun _ _ _ h => h) (Or.inl ⟨by rfl, by intro W hW; clear hW; go_simp⟩) hHeld ?_
  simp only [Act.put, List.setIfInBounds_toArray, List.set_cons_zero, List.set_cons_succ]
  refine take_at 8 38 (.bool true) rfl rfl (by kernel_rfl) (by kernel_rfl) (by kernel_rfl) (fun _ _ _ h => h) (Or.inl ⟨by rfl, by intro W hW; clear hW; go_simp⟩) hHeld ?_
  simp only [Act.put, List.setIfInBounds_toArray, List.set_cons_zero, List.set_cons_succ]
  refine take_at 9 39 (.bool true) rfl rfl (by kernel_rfl) (by kernel_rfl) (by kernel_rfl) (fun _ _ _ h => h) (Or.inl ⟨by rfl, by intro W hW; clear hW; go_simp⟩) hHeld ?_
  simp only [Act.put, List.setIfInBounds_toArray, List.set_cons_zero, List.set_cons_succ]
  refine take_at 10 40 (.agg (matA m)) rfl rfl (by kernel_rfl) (by kernel_rfl) (by kernel_rfl) (fun _ _ _ h => h) (yields_mat (by rfl) 28 (.tmp 7) rfl (w2.heap.size) rfl 28 m (fun W h => h.st.theirs) Tryd.underlying28 (matInfo _)) hHeld ?_
  simp only [Act.put, List.setIfInBounds_toArray, List.set_cons_zero, List.set_cons_succ]
  refine take_at 11 41 (.int .i64 (a : Nat)) rfl rfl (by kernel_rfl) (by kernel_rfl) (by kernel_rfl) (fun _ _ _ h => h) (Or.inl ⟨by rfl, by intro W hW; clear hW; go_simp⟩) hHeld ?_
  simp only [Act.put, List.setIfInBounds_toArray, List.set_cons_zero, List.set_cons_succ]
  refine take_at 14 44 (.agg (matA m)) rfl rfl (by kernel_rfl) (by kernel_rfl) (by kernel_rfl) (fun _ _ _ h => h) (yields_mat (by rfl) 24 (.tmp 3) rfl (w.heap.size) rfl 24 m (fun W h => h.st.ours) Tryd.underlying24 (rmatInfo _)) hHeld ?_
  simp only [Act.put, List.setIfInBounds_toArray, List.set_cons_zero, List.set_cons_succ]
  refine take_at 15 45 (.int .i64 (a : Nat)) rfl rfl (by kernel_rfl) (by kernel_rfl) (by kernel_rfl) (fun _ _ _ h => h) (Or.inl ⟨by rfl, by intro W hW; clear hW; go_simp⟩) hHeld ?_
  simp only [Act.put, List.setIfInBounds_toArray, List.set_cons_zero, List.set_cons_succ]
  refine wpAnyH_ready (rs := [12]) (by kernel_rfl) (by simp) ?_
  refine AllReadyH.cons rfl (fun K hK => ?_) AllReadyH.nil
  go_simp
  refine (cut_in m a _ hm ha).mono ?_
  rintro e w6 ⟨rfl, hbb⟩
  try go_simp
  have hHeld := hHeld.below hbb
  refine hK.out _ _ hHeld (fun hHeld => ?_)
  clear hK K hbb
  refine wpAnyH_ready (rs := [13]) (by kernel_rfl) (by simp) ?_
  refine AllReadyH.cons rfl (fun K hK => ?_) AllReadyH.nil
  go_simp
  refine (ours_any (Mm.cut m a) _).mono ?_
  rintro e w7 ⟨rfl, hbb⟩
  try go_simp
  have hHeld := hHeld.below hbb
  refine hK.out _ _ hHeld (fun hHeld => ?_)
  clear hK K hbb
  refine wpAnyH_ready (rs := [16]) (by kernel_rfl) (by simp) ?_
  refine AllReadyH.cons rfl (fun K hK => ?_) AllReadyH.nil
  go_simp
  refine (rcut_in m a _ hm ha).mono ?_
  rintro e w8 ⟨rfl, hbb⟩
  try go_simp
  have hHeld := hHeld.below hbb
  refine hK.out _ _ hHeld (fun hHeld => ?_)
  clear hK K hbb
  refine take_at 17 47 (.bool true) rfl rfl (by kernel_rfl) (by kernel_rfl) (by kernel_rfl) (fun _ _ _ h => h) (Or.inl ⟨by rfl, by intro W hW; clear hW; go_simp⟩) hHeld ?_
  simp only [Act.put, List.setIfInBounds_toArray, List.set_cons_zero, List.set_cons_succ]
  refine take_at 18 48 (.bool true) rfl rfl (by kernel_rfl) (by kernel_rfl) (by kernel_rfl) (fun _ _ _ h => h) (Or.inl ⟨by rfl, by intro W hW; clear hW; go_simp⟩) hHeld ?_
  simp only [Act.put, List.setIfInBounds_toArray, List.set_cons_zero, List.set_cons_succ]
  refine take_at 19 49 (.bool true) rfl rfl (by kernel_rfl) (by kernel_rfl) (by kernel_rfl) (fun _ _ _ h => h) (Or.inl ⟨by rfl, by intro W hW; clear hW; go_simp⟩) hHeld ?_
  simp only [Act.put, List.setIfInBounds_toArray, List.set_cons_zero, List.set_cons_succ]
  refine take_at 20 50 (.agg (matA m)) rfl rfl (by kernel_rfl) (by kernel_rfl) (by kernel_rfl) (fun _ _ _ h => h) (yields_mat (by rfl) 28 (.tmp 7) rfl (w2.heap.size) rfl 28 m (fun W h => h.st.theirs) Tryd.underlying28 (matInfo _)) hHeld ?_
  simp only [Act.put, List.setIfInBounds_toArray, List.set_cons_zero, List.set_cons_succ]
  refine take_at 21 51 (.int .i64 (a : Nat)) rfl rfl (by kernel_rfl) (by kernel_rfl) (by kernel_rfl) (fun _ _ _ h => h) (Or.inl ⟨by rfl, by intro W hW; clear hW; go_simp⟩) hHeld ?_
  simp only [Act.put, List.setIfInBounds_toArray, List.set_cons_zero, List.set_cons_succ]
  refine take_at 22 52 (.int .i64 (a : Nat)) rfl rfl (by kernel_rfl) (by kernel_rfl) (by kernel_rfl) (fun _ _ _ h => h) (Or.inl ⟨by rfl, by intro W hW; clear hW; go_simp⟩) hHeld ?_
  simp only [Act.put, List.setIfInBounds_toArray, List.set_cons_zero, List.set_cons_succ]
  refine take_at 24 54 (.agg (matA m)) rfl rfl (by kernel_rfl) (by kernel_rfl) (by kernel_rfl) (fun _ _ _ h => h) (yields_mat (by rfl) 24 (.tmp 3) rfl (w.heap.size) rfl 24 m (fun W h => h.st.ours) Tryd.underlying24 (rmatInfo _)) hHeld ?_
  simp only [Act.put, List.setIfInBounds_toArray, List.set_cons_zero, List.set_cons_succ]
  refine take_at 25 55 (.int .i64 (a : Nat)) rfl rfl (by kernel_rfl) (by kernel_rfl) (by kernel_rfl) (fun _ _ _ h => h) (Or.inl ⟨by rfl, by intro W hW; clear hW; go_simp⟩) hHeld ?_
  simp only [Act.put, List.setIfInBounds_toArray, List.set_cons_zero, List.set_cons_succ]
  refine take_at 26 56 (.int .i64 (a : Nat)) rfl rfl (by kernel_rfl) (by kernel_rfl) (by kernel_rfl) (fun _ _ _ h => h) (Or.inl ⟨by rfl, by intro W hW; clear hW; go_simp⟩) hHeld ?_
  simp only [Act.put, List.setIfInBounds_toArray, List.set_cons_zero, List.set_cons_succ]
  refine wpAnyH_ready (rs := [23]) (by kernel_rfl) (by simp) ?_
  refine AllReadyH.cons rfl (fun K hK => ?_) AllReadyH.nil
  go_simp
  refine (mhas_in m a (a : Nat) _ hm ha (by omega) (by omega)).mono ?_
  rintro e w9 ⟨rfl, hbb⟩
  try go_simp
  have hHeld := hHeld.below hbb
  refine hK.out _ _ hHeld (fun hHeld => ?_)
  clear hK K hbb
  refine wpAnyH_ready (rs := [27]) (by kernel_rfl) (by simp) ?_
  refine AllReadyH.cons rfl (fun K hK => ?_) AllReadyH.nil
  go_simp
  refine (rmhas_in m a a _ hm ha ha).mono ?_
  rintro e w10 ⟨rfl, hbb⟩
  try go_simp
  have hHeld := hHeld.below hbb
  refine hK.out _ _ hHeld (fun hHeld => ?_)
  clear hK K hbb
  refine take_at 28 58 (.bool true) rfl rfl (by kernel_rfl) (by kernel_rfl) (by kernel_rfl) (fun _ _ _ h => h) (Or.inl ⟨by rfl, by intro W hW; clear hW; go_simp⟩) hHeld ?_
  simp only [Act.put, List.setIfInBounds_toArray, List.set_cons_zero, List.set_cons_succ]
  refine take_at 29 59 (.bool true) rfl rfl (by kernel_rfl) (by kernel_rfl) (by kernel_rfl) (fun _ _ _ h => h) (Or.inl ⟨by rfl, by intro W hW; clear hW; go_simp⟩) hHeld ?_
  simp only [Act.put, List.setIfInBounds_toArray, List.set_cons_zero, List.set_cons_succ]
  refine take_at 30 60 (.bool true) rfl rfl (by kernel_rfl) (by kernel_rfl) (by kernel_rfl) (fun _ _ _ h => h) (Or.inl ⟨by rfl, by intro W hW; clear hW; go_simp⟩) hHeld ?_
  simp only [Act.put, List.setIfInBounds_toArray, List.set_cons_zero, List.set_cons_succ]
  refine take_at 31 61 (.agg (matA m)) rfl rfl (by kernel_rfl) (by kernel_rfl) (by kernel_rfl) (fun _ _ _ h => h) (yields_mat (by rfl) 28 (.tmp 7) rfl (w2.heap.size) rfl 28 m (fun W h => h.st.theirs) Tryd.underlying28 (matInfo _)) hHeld ?_
  simp only [Act.put, List.setIfInBounds_toArray, List.set_cons_zero, List.set_cons_succ]
  refine take_at 32 62 (.int .i64 (a : Nat)) rfl rfl (by kernel_rfl) (by kernel_rfl) (by kernel_rfl) (fun _ _ _ h => h) (Or.inl ⟨by rfl, by intro W hW; clear hW; go_simp⟩) hHeld ?_
  simp only [Act.put, List.setIfInBounds_toArray, List.set_cons_zero, List.set_cons_succ]
  refine take_at 34 64 (.agg (matA m)) rfl rfl (by kernel_rfl) (by kernel_rfl) (by kernel_rfl) (fun _ _ _ h => h) (yields_mat (by rfl) 24 (.tmp 3) rfl (w.heap.size) rfl 24 m (fun W h => h.st.ours) Tryd.underlying24 (rmatInfo _)) hHeld ?_
  simp only [Act.put, List.setIfInBounds_toArray, List.set_cons_zero, List.set_cons_succ]
  refine take_at 35 65 (.int .i64 (a : Nat)) rfl rfl (by kernel_rfl) (by kernel_rfl) (by kernel_rfl) (fun _ _ _ h => h) (Or.inl ⟨by rfl, by intro W hW; clear hW; go_simp⟩) hHeld ?_
  simp only [Act.put, List.setIfInBounds_toArray, List.set_cons_zero, List.set_cons_succ]
  refine wpAnyH_ready (rs := [33]) (by kernel_rfl) (by simp) ?_
  refine AllReadyH.cons rfl (fun K hK => ?_) AllReadyH.nil
  go_simp
  refine (outs_in m a _ hm ha).mono ?_
  rintro e w11 ⟨rfl, hbb⟩
  try go_simp
  have hHeld := hHeld.below hbb
  refine hK.out _ _ hHeld (fun hHeld => ?_)
  clear hK K hbb
  refine wpAnyH_ready (rs := [36]) (by kernel_rfl) (by simp) ?_
  refine AllReadyH.cons rfl (fun K hK => ?_) AllReadyH.nil
  go_simp
  refine (routs_in m a _ hm ha).mono ?_
  rintro e w12 ⟨rfl, hbb⟩
  try go_simp
  have hHeld := hHeld.below hbb
  refine hK.out _ _ hHeld (fun hHeld => ?_)
  clear hK K hbb
  refine take_at 37 67 (.bool true) rfl rfl (by kernel_rfl) (by kernel_rfl) (by kernel_rfl) (fun _ _ _ h => h) (Or.inl ⟨by rfl, by intro W hW; clear hW; go_simp⟩) hHeld ?_
  simp only [Act.put, List.setIfInBounds_toArray, List.set_cons_zero, List.set_cons_succ]
  refine take_at 38 68 (.bool true) rfl rfl (by kernel_rfl) (by kernel_rfl) (by kernel_rfl) (fun _ _ _ h => h) (Or.inl ⟨by rfl, by intro W hW; clear hW; go_simp⟩) hHeld ?_
  simp only [Act.put, List.setIfInBounds_toArray, List.set_cons_zero, List.set_cons_succ]
  refine take_at 39 69 (.bool true) rfl rfl (by kernel_rfl) (by kernel_rfl) (by kernel_rfl) (fun _ _ _ h => h) (Or.inl ⟨by rfl, by intro W hW; clear hW; go_simp⟩) hHeld ?_
  simp only [Act.put, List.setIfInBounds_toArray, List.set_cons_zero, List.set_cons_succ]
  refine take_at 40 70 (.agg (matA m)) rfl rfl (by kernel_rfl) (by kernel_rfl) (by kernel_rfl) (fun _ _ _ h => h) (yields_mat (by rfl) 28 (.tmp 7) rfl (w2.heap.size) rfl 28 m (fun W h => h.st.theirs) Tryd.underlying28 (matInfo _)) hHeld ?_
  simp only [Act.put, List.setIfInBounds_toArray, List.set_cons_zero, List.set_cons_succ]
  refine take_at 41 71 (.int .i64 (a : Nat)) rfl rfl (by kernel_rfl) (by kernel_rfl) (by kernel_rfl) (fun _ _ _ h => h) (Or.inl ⟨by rfl, by intro W hW; clear hW; go_simp⟩) hHeld ?_
  simp only [Act.put, List.setIfInBounds_toArray, List.set_cons_zero, List.set_cons_succ]
  refine take_at 43 73 (.agg (matA m)) rfl rfl (by kernel_rfl) (by kernel_rfl) (by kernel_rfl) (fun _ _ _ h => h) (yields_mat (by rfl) 24 (.tmp 3) rfl (w.heap.size) rfl 24 m (fun W h => h.st.ours) Tryd.underlying24 (rmatInfo _)) hHeld ?_
  simp only [Act.put, List.setIfInBounds_toArray, List.set_cons_zero, List.set_cons_succ]
  refine take_at 45 75 (.int .i64 (a : Nat)) rfl rfl (by kernel_rfl) (by kernel_rfl) (by kernel_rfl) (fun _ _ _ h => h) (Or.inl ⟨by rfl, by intro W hW; clear hW; go_simp⟩) hHeld ?_
  simp only [Act.put, List.setIfInBounds_toArray, List.set_cons_zero, List.set_cons_succ]
  refine wpAnyH_ready (rs := [42]) (by kernel_rfl) (by simp) ?_
  refine AllReadyH.cons rfl (fun K hK => ?_) AllReadyH.nil
  go_simp
  refine (ins_in m a _ hm ha).mono ?_
  rintro e w13 ⟨rfl, hbb⟩
  try go_simp
  have hHeld := hHeld.below hbb
  refine hK.out _ _ hHeld (fun hHeld => ?_)
  clear hK K hbb
  refine wpAnyH_ready (rs := [44]) (by kernel_rfl) (by simp) ?_
  refine AllReadyH.cons rfl (fun K hK => ?_) AllReadyH.nil
  go_simp
  refine (turn_any m _ hm).mono ?_
  rintro e w14 ⟨rfl, hbb⟩
  try go_simp
  have hHeld := hHeld.below hbb
  refine hK.out _ _ hHeld (fun hHeld => ?_)
  clear hK K hbb
  refine wpAnyH_ready (rs := [46]) (by kernel_rfl) (by simp) ?_
  refine AllReadyH.cons rfl (fun K hK => ?_) AllReadyH.nil
  go_simp
  refine (routs_turn m a _ ha).mono ?_
  rintro e w15 ⟨rfl, hbb⟩
  try go_simp
  have hHeld := hHeld.below hbb
  refine hK.out _ _ hHeld (fun hHeld => ?_)
  clear hK K hbb
  refine take_at 47 77 (.bool true) rfl rfl (by kernel_rfl) (by kernel_rfl) (by kernel_rfl) (fun _ _ _ h => h) (Or.inl ⟨by rfl, by intro W hW; clear hW; go_simp⟩) hHeld ?_
  simp only [Act.put, List.setIfInBounds_toArray, List.set_cons_zero, List.set_cons_succ]
  refine take_at 48 78 (.bool true) rfl rfl (by kernel_rfl) (by kernel_rfl) (by kernel_rfl) (fun _ _ _ h => h) (Or.inl ⟨by rfl, by intro W hW; clear hW; go_simp⟩) hHeld ?_
  simp only [Act.put, List.setIfInBounds_toArray, List.set_cons_zero, List.set_cons_succ]
  refine take_at 49 6 (.bool true) rfl rfl (by kernel_rfl) (by kernel_rfl) (by kernel_rfl) (fun _ _ _ h => h) (Or.inl ⟨by rfl, by intro W hW; clear hW; go_simp⟩) hHeld ?_
  simp only [Act.put, List.setIfInBounds_toArray, List.set_cons_zero, List.set_cons_succ]
  refine wpAnyH_done (by kernel_rfl) ?_ _
  refine NoPanic.normal ?_
  go_wp2
  go_ret
  exact ⟨rfl, hHeld.st.bel⟩
set_option maxHeartbeats 4000000 in
set_option maxRecDepth 100000 in
theorem tells_out (m : Mm.Gr) (a : Nat) (b : Int) (ha : a < 32) (hb : Far b) (w : World) (hm : Mm.Ok m) (hT : TabAt w) :
    Calls Tryd.prog 3 #[.agg (matA m), .int .i64 (a : Nat), .int .i64 b] w fun e w' => e = .returned (.bool true) ∧ Below w.heap.size w w' := by
  have HE1 := Lib.hid (eq_rmat m m true (same_self _))
  have HE2 := Lib.hid (eq_rmat (Mm.cut m a) (Mm.cut m a) true (same_self _))
  have HT := Lib.hid hT
  clear hT
  go_enter Tryd.func3, Tryd.ntmps3
  go_wp2_with fail
  refine (alive_any _ (tabAt_new HT.out _)).mono ?_
  rintro e w1 ⟨rfl, hb1⟩
  have H1 := Lib.hid ((matAt_new w m 24).below hb1)
  go_wp2_with (refine wpList_load_row rfl 24 (.tmp 3) rfl w.heap.size rfl 24 (matA m) (0, 0) _ H1.out Tryd.underlying24 rfl (rmatInfo m) ?_)
  refine (theirs_any m _).mono ?_
  rintro e w2 ⟨rfl, hb2⟩
  have HS := Lib.hid (st_first HT.out hb1 hb2)
  clear hb1 hb2 H1
  go_wp2_with (first
    | (refine wpList_store_row rfl 28 (.tmp 7) (.tmp 15) rfl w2.heap.size (matA m) rfl rfl 28 _ (heap_alloc_new _ _) (matInfo _) (by rw [matA_size]; rfl) (matA_one _) ?_; rw [World.setRow_alloc_new])
    | (refine wpList_load_row rfl 28 (.tmp 7) rfl w2.heap.size rfl 28 (matA m) (0, 0) _ HS.out.theirs Tryd.underlying28 rfl (matInfo _) ?_))
  refine (put_no2 m a b _ ha hb).mono ?_
  rintro e w3 ⟨rfl, hb3⟩
  have HS3 := Lib.hid ((HS.out.below hb3).alloc (.cells (matA m) 28))
  have HN3 := Lib.hid (matAt_new w3 m 28)
  clear hb3 HS
  go_wp2_with (first
    | (refine wpList_store_row rfl 28 (.tmp 8) (.tmp 21) rfl w3.heap.size (matA m) rfl rfl 28 _ (heap_alloc_new _ _) (matInfo _) (by rw [matA_size]; rfl) (matA_one _) ?_; rw [World.setRow_alloc_new])
    | (refine wpList_load_row rfl 24 (.tmp 3) rfl w.heap.size rfl 24 (matA m) (0, 0) _ HS3.out.ours Tryd.underlying24 rfl (rmatInfo _) ?_))
  refine (rput_no2 m a b _ ha hb).mono ?_
  rintro e w4 ⟨rfl, hb4⟩
  have HZ := Lib.hid (ST.mk ((HS3.out.below hb4).alloc (.cells (matA m) 24)) ((HN3.out.below hb4).alloc (.cells (matA m) 24)) (matAt_new w4 m 24))
  clear hb4 HS3 HN3
  have hE1 := HE1.out
  have hE2 := HE2.out
  go_wp2_with (first
    | (refine wpList_store_row rfl 24 (.tmp 10) (.tmp 28) rfl w4.heap.size (matA m) rfl rfl 24 _ (heap_alloc_new _ _) (rmatInfo _) (by rw [matA_size]; rfl) (matA_one _) ?_; rw [World.setRow_alloc_new]))
  refine wp_region_noPanic ?_
  refine region_start (S := ST w w2.heap.size m w3.heap.size w4.heap.size m) 50 rfl (by kernel_rfl) (HZ.out.drew) (fun hHeld => ?_)
  refine take_at 0 30 (.agg (matA m)) rfl rfl (by kernel_rfl) (by kernel_rfl) (by kernel_rfl) (fun _ _ _ h => h) (yields_mat (by rfl) 28 (.tmp 8) rfl (w3.heap.size) rfl 28 m (fun W h => h.two) Tryd.underlying28 (matInfo _)) hHeld ?_
  simp only [Act.put, List.setIfInBounds_toArray, List.set_cons_zero, List.set_cons_succ]
  refine take_at 2 32 (.agg (matA m)) rfl rfl (by kernel_rfl) (by kernel_rfl) (by kernel_rfl) (fun _ _ _ h => h) (yields_mat (by rfl) 24 (.tmp 10) rfl (w4.heap.size) rfl 24 m (fun W h => h.three) Tryd.underlying24 (rmatInfo _)) hHeld ?_
  simp only [Act.put, List.setIfInBounds_toArray, List.set_cons_zero, List.set_cons_succ]
  refine wpAnyH_ready (rs := [1]) (by kernel_rfl) (by simp) ?_
  refine AllReadyH.cons rfl (fun K hK => ?_) AllReadyH.nil
  go_simp
  refine (ours_any m _).mono ?_
  rintro e w5 ⟨rfl, hbb⟩
  try go_simp
  have hHeld := hHeld.below hbb
  refine hK.out _ _ hHeld (fun hHeld => ?_)
  clear hK K hbb
  refine take_at 3 33 (.bool true) rfl rfl (by kernel_rfl) (by kernel_rfl) (by kernel_rfl) (fun _ _ _ h => h) (Or.inl ⟨by rfl, by intro W hW; clear hW; go_simp⟩) hHeld ?_
  simp only [Act.put, List.setIfInBounds_toArray, List.set_cons_zero, List.set_cons_succ]
  refine take_at 4 34 (.bool true) rfl rfl (by kernel_rfl) (by kernel_rfl) (by kernel_rfl) (fun _ _ _ h => h) (Or.inl ⟨by rfl, by intro W hW; clear hW; go_simp⟩) hHeld ?_
  simp only [Act.put, List.setIfInBounds_toArray, List.set_cons_zero, List.set_cons_succ]
  refine take_at 5 35 (.bool false) rfl rfl (by kernel_rfl) (by kernel_rfl) (by kernel_rfl) (fun _ _ _ h => h) (Or.inl ⟨by rfl, by intro W hW; clear hW; go_simp⟩) hHeld ?_
  simp only [Act.put, List.setIfInBounds_toArray, List.set_cons_zero, List.set_cons_succ]
  refine take_at 6 36 (.bool false) rfl rfl (by kernel_rfl) (by kernel_rfl) (by kernel_rfl) (fun _ _ _ h => h) (Or.inl ⟨by rfl, by intro W hW; clear hW; go_simp⟩) hHeld ?_
  simp only [Act.put, List.setIfInBounds_toArray, List.set_cons_zero, List.set_cons_succ]
  refine take_at 7 37 (.bool true) rfl rfl (by kernel_rfl) (by kernel_rfl) (by kernel_rfl) (fun _ _ _ h => h) (Or.inl ⟨by rfl, by intro W hW; clear hW; go_simp⟩) hHeld ?_
  simp only [Act.put, List.setIfInBounds_toArray, List.set_cons_zero, List.set_cons_succ]
  refine take_at 8 38 (.bool true) rfl rfl (by kernel_rfl) (by kernel_rfl) (by kernel_rfl) (fun _ _ _ h => h) (Or.inl ⟨by rfl, by intro W hW; clear hW; go_simp⟩) hHeld ?_
  simp only [Act.put, List.setIfInBounds_toArray, List.set_cons_zero, List.set_cons_succ]
  refine take_at 9 39 (.bool true) rfl rfl (by kernel_rfl) (by kernel_rfl) (by kernel_rfl) (fun _ _ _ h => h) (Or.inl ⟨by rfl, by intro W hW; clear hW; go_simp⟩) hHeld ?_
  simp only [Act.put, List.setIfInBounds_toArray, List.set_cons_zero, List.set_cons_succ]
  refine take_at 10 40 (.agg (matA m)) rfl rfl (by kernel_rfl) (by kernel_rfl) (by kernel_rfl) (fun _ _ _ h => h) (yields_mat (by rfl) 28 (.tmp 7) rfl (w2.heap.size) rfl 28 m (fun W h => h.st.theirs) Tryd.underlying28 (matInfo _)) hHeld ?_
  simp only [Act.put, List.setIfInBounds_toArray, List.set_cons_zero, List.set_cons_succ]
  refine take_at 11 41 (.int .i64 (a : Nat)) rfl rfl (by kernel_rfl) (by kernel_rfl) (by kernel_rfl) (fun _ _ _ h => h) (Or.inl ⟨by rfl, by intro W hW; clear hW; go_simp⟩) hHeld ?_
  simp only [Act.put, List.setIfInBounds_toArray, List.set_cons_zero, List.set_cons_succ]
  refine take_at 14 44 (.agg (matA m)) rfl rfl (by kernel_rfl) (by kernel_rfl) (by kernel_rfl) (fun _ _ _ h => h) (yields_mat (by rfl) 24 (.tmp 3) rfl (w.heap.size) rfl 24 m (fun W h => h.st.ours) Tryd.underlying24 (rmatInfo _)) hHeld ?_
  simp only [Act.put, List.setIfInBounds_toArray, List.set_cons_zero, List.set_cons_succ]
  refine take_at 15 45 (.int .i64 (a : Nat)) rfl rfl (by kernel_rfl) (by kernel_rfl) (by kernel_rfl) (fun _ _ _ h => h) (Or.inl ⟨by rfl, by intro W hW; clear hW; go_simp⟩) hHeld ?_
  simp only [Act.put, List.setIfInBounds_toArray, List.set_cons_zero, List.set_cons_succ]
  refine wpAnyH_ready (rs := [12]) (by kernel_rfl) (by simp) ?_
  refine AllReadyH.cons rfl (fun K hK => ?_) AllReadyH.nil
  go_simp
  refine (cut_in m a _ hm ha).mono ?_
  rintro e w6 ⟨rfl, hbb⟩
  try go_simp
  have hHeld := hHeld.below hbb
  refine hK.out _ _ hHeld (fun hHeld => ?_)
  clear hK K hbb
  refine wpAnyH_ready (rs := [13]) (by kernel_rfl) (by simp) ?_
  refine AllReadyH.cons rfl (fun K hK => ?_) AllReadyH.nil
  go_simp
  refine (ours_any (Mm.cut m a) _).mono ?_
  rintro e w7 ⟨rfl, hbb⟩
  try go_simp
  have hHeld := hHeld.below hbb
  refine hK.out _ _ hHeld (fun hHeld => ?_)
  clear hK K hbb
  refine wpAnyH_ready (rs := [16]) (by kernel_rfl) (by simp) ?_
  refine AllReadyH.cons rfl (fun K hK => ?_) AllReadyH.nil
  go_simp
  refine (rcut_in m a _ hm ha).mono ?_
  rintro e w8 ⟨rfl, hbb⟩
  try go_simp
  have hHeld := hHeld.below hbb
  refine hK.out _ _ hHeld (fun hHeld => ?_)
  clear hK K hbb
  refine take_at 17 47 (.bool true) rfl rfl (by kernel_rfl) (by kernel_rfl) (by kernel_rfl) (fun _ _ _ h => h) (Or.inl ⟨by rfl, by intro W hW; clear hW; go_simp⟩) hHeld ?_
  simp only [Act.put, List.setIfInBounds_toArray, List.set_cons_zero, List.set_cons_succ]
  refine take_at 18 48 (.bool true) rfl rfl (by kernel_rfl) (by kernel_rfl) (by kernel_rfl) (fun _ _ _ h => h) (Or.inl ⟨by rfl, by intro W hW; clear hW; go_simp⟩) hHeld ?_
  simp only [Act.put, List.setIfInBounds_toArray, List.set_cons_zero, List.set_cons_succ]
  refine take_at 19 49 (.bool true) rfl rfl (by kernel_rfl) (by kernel_rfl) (by kernel_rfl) (fun _ _ _ h => h) (Or.inl ⟨by rfl, by intro W hW; clear hW; go_simp⟩) hHeld ?_
  simp only [Act.put, List.setIfInBounds_toArray, List.set_cons_zero, List.set_cons_succ]
  refine take_at 20 50 (.agg (matA m)) rfl rfl (by kernel_rfl) (by kernel_rfl) (by kernel_rfl) (fun _ _ _ h => h) (yields_mat (by rfl) 28 (.tmp 7) rfl (w2.heap.size) rfl 28 m (fun W h => h.st.theirs) Tryd.underlying28 (matInfo _)) hHeld ?_
  simp only [Act.put, List.setIfInBounds_toArray, List.set_cons_zero, List.set_cons_succ]
  refine take_at 21 51 (.int .i64 (a : Nat)) rfl rfl (by kernel_rfl) (by kernel_rfl) (by kernel_rfl) (fun _ _ _ h => h) (Or.inl ⟨by rfl, by intro W hW; clear hW; go_simp⟩) hHeld ?_
  simp only [Act.put, List.setIfInBounds_toArray, List.set_cons_zero, List.set_cons_succ]
  refine take_at 22 52 (.int .i64 b) rfl rfl (by kernel_rfl) (by kernel_rfl) (by kernel_rfl) (fun _ _ _ h => h) (Or.inl ⟨by rfl, by intro W hW; clear hW; go_simp⟩) hHeld ?_
  simp only [Act.put, List.setIfInBounds_toArray, List.set_cons_zero, List.set_cons_succ]
  refine take_at 24 54 (.agg (matA m)) rfl rfl (by kernel_rfl) (by kernel_rfl) (by kernel_rfl) (fun _ _ _ h => h) (yields_mat (by rfl) 24 (.tmp 3) rfl (w.heap.size) rfl 24 m (fun W h => h.st.ours) Tryd.underlying24 (rmatInfo _)) hHeld ?_
  simp only [Act.put, List.setIfInBounds_toArray, List.set_cons_zero, List.set_cons_succ]
  refine take_at 25 55 (.int .i64 (a : Nat)) rfl rfl (by kernel_rfl) (by kernel_rfl) (by kernel_rfl) (fun _ _ _ h => h) (Or.inl ⟨by rfl, by intro W hW; clear hW; go_simp⟩) hHeld ?_
  simp only [Act.put, List.setIfInBounds_toArray, List.set_cons_zero, List.set_cons_succ]
  refine take_at 26 56 (.int .i64 b) rfl rfl (by kernel_rfl) (by kernel_rfl) (by kernel_rfl) (fun _ _ _ h => h) (Or.inl ⟨by rfl, by intro W hW; clear hW; go_simp⟩) hHeld ?_
  simp only [Act.put, List.setIfInBounds_toArray, List.set_cons_zero, List.set_cons_succ]
  refine wpAnyH_ready (rs := [23]) (by kernel_rfl) (by simp) ?_
  refine AllReadyH.cons rfl (fun K hK => ?_) AllReadyH.nil
  go_simp
  refine (mhas_out m a b _ hm ha hb).mono ?_
  rintro e w9 ⟨rfl, hbb⟩
  try go_simp
  have hHeld := hHeld.below hbb
  refine hK.out _ _ hHeld (fun hHeld => ?_)
  clear hK K hbb
  refine wpAnyH_ready (rs := [27]) (by kernel_rfl) (by simp) ?_
  refine AllReadyH.cons rfl (fun K hK => ?_) AllReadyH.nil
  go_simp
  refine (rmhas_far2 m a b _ ha hb).mono ?_
  rintro e w10 ⟨rfl, hbb⟩
  try go_simp
  have hHeld := hHeld.below hbb
  refine hK.out _ _ hHeld (fun hHeld => ?_)
  clear hK K hbb
  refine take_at 28 58 (.bool true) rfl rfl (by kernel_rfl) (by kernel_rfl) (by kernel_rfl) (fun _ _ _ h => h) (Or.inl ⟨by rfl, by intro W hW; clear hW; go_simp⟩) hHeld ?_
  simp only [Act.put, List.setIfInBounds_toArray, List.set_cons_zero, List.set_cons_succ]
  refine take_at 29 59 (.bool true) rfl rfl (by kernel_rfl) (by kernel_rfl) (by kernel_rfl) (fun _ _ _ h => h) (Or.inl ⟨by rfl, by intro W hW; clear hW; go_simp⟩) hHeld ?_
  simp only [Act.put, List.setIfInBounds_toArray, List.set_cons_zero, List.set_cons_succ]
  refine take_at 30 60 (.bool true) rfl rfl (by kernel_rfl) (by kernel_rfl) (by kernel_rfl) (fun _ _ _ h => h) (Or.inl ⟨by rfl, by intro W hW; clear hW; go_simp⟩) hHeld ?_
  simp only [Act.put, List.setIfInBounds_toArray, List.set_cons_zero, List.set_cons_succ]
  refine take_at 31 61 (.agg (matA m)) rfl rfl (by kernel_rfl) (by kernel_rfl) (by kernel_rfl) (fun _ _ _ h => h) (yields_mat (by rfl) 28 (.tmp 7) rfl (w2.heap.size) rfl 28 m (fun W h => h.st.theirs) Tryd.underlying28 (matInfo _)) hHeld ?_
  simp only [Act.put, List.setIfInBounds_toArray, List.set_cons_zero, List.set_cons_succ]
  refine take_at 32 62 (.int .i64 (a : Nat)) rfl rfl (by kernel_rfl) (by kernel_rfl) (by kernel_rfl) (fun _ _ _ h => h) (Or.inl ⟨by rfl, by intro W hW; clear hW; go_simp⟩) hHeld ?_
  simp only [Act.put, List.setIfInBounds_toArray, List.set_cons_zero, List.set_cons_succ]
  refine take_at 34 64 (.agg (matA m)) rfl rfl (by kernel_rfl) (by kernel_rfl) (by kernel_rfl) (fun _ _ _ h => h) (yields_mat (by rfl) 24 (.tmp 3) rfl (w.heap.size) rfl 24 m (fun W h => h.st.ours) Tryd.underlying24 (rmatInfo _)) hHeld ?_
  simp only [Act.put, List.setIfInBounds_toArray, List.set_cons_zero, List.set_cons_succ]
  refine take_at 35 65 (.int .i64 (a : Nat)) rfl rfl (by kernel_rfl) (by kernel_rfl) (by kernel_rfl) (fun _ _ _ h => h) (Or.inl ⟨by rfl, by intro W hW; clear hW; go_simp⟩) hHeld ?_
  simp only [Act.put, List.setIfInBounds_toArray, List.set_cons_zero, List.set_cons_succ]
  refine wpAnyH_ready (rs := [33]) (by kernel_rfl) (by simp) ?_
  refine AllReadyH.cons rfl (fun K hK => ?_) AllReadyH.nil
  go_simp
  refine (outs_in m a _ hm ha).mono ?_
  rintro e w11 ⟨rfl, hbb⟩
  try go_simp
  have hHeld := hHeld.below hbb
  refine hK.out _ _ hHeld (fun hHeld => ?_)
  clear hK K hbb
  refine wpAnyH_ready (rs := [36]) (by kernel_rfl) (by simp) ?_
  refine AllReadyH.cons rfl (fun K hK => ?_) AllReadyH.nil
  go_simp
  refine (routs_in m a _ hm ha).mono ?_
  rintro e w12 ⟨rfl, hbb⟩
  try go_simp
  have hHeld := hHeld.below hbb
  refine hK.out _ _ hHeld (fun hHeld => ?_)
  clear hK K hbb
  refine take_at 37 67 (.bool true) rfl rfl (by kernel_rfl) (by kernel_rfl) (by kernel_rfl) (fun _ _ _ h => h) (Or.inl ⟨by rfl, by intro W hW; clear hW; go_simp⟩) hHeld ?_
  simp only [Act.put, List.setIfInBounds_toArray, List.set_cons_zero, List.set_cons_succ]
  refine take_at 38 68 (.bool true) rfl rfl (by kernel_rfl) (by kernel_rfl) (by kernel_rfl) (fun _ _ _ h => h) (Or.inl ⟨by rfl, by intro W hW; clear hW; go_simp⟩) hHeld ?_
  simp only [Act.put, List.setIfInBounds_toArray, List.set_cons_zero, List.set_cons_succ]
  refine take_at 39 69 (.bool true) rfl rfl (by kernel_rfl) (by kernel_rfl) (by kernel_rfl) (fun _ _ _ h => h) (Or.inl ⟨by rfl, by intro W hW; clear hW; go_simp⟩) hHeld ?_
  simp only [Act.put, List.setIfInBounds_toArray, List.set_cons_zero, List.set_cons_succ]
  refine take_at 40 70 (.agg (matA m)) rfl rfl (by kernel_rfl) (by kernel_rfl) (by kernel_rfl) (fun _ _ _ h => h) (yields_mat (by rfl) 28 (.tmp 7) rfl (w2.heap.size) rfl 28 m (fun W h => h.st.theirs) Tryd.underlying28 (matInfo _)) hHeld ?_
  simp only [Act.put, List.setIfInBounds_toArray, List.set_cons_zero, List.set_cons_succ]
  refine take_at 41 71 (.int .i64 (a : Nat)) rfl rfl (by kernel_rfl) (by kernel_rfl) (by kernel_rfl) (fun _ _ _ h => h) (Or.inl ⟨by rfl, by intro W hW; clear hW; go_simp⟩) hHeld ?_
  simp only [Act.put, List.setIfInBounds_toArray, List.set_cons_zero, List.set_cons_succ]
  refine take_at 43 73 (.agg (matA m)) rfl rfl (by kernel_rfl) (by kernel_rfl) (by kernel_rfl) (fun _ _ _ h => h) (yields_mat (by rfl) 24 (.tmp 3) rfl (w.heap.size) rfl 24 m (fun W h => h.st.ours) Tryd.underlying24 (rmatInfo _)) hHeld ?_
  simp only [Act.put, List.setIfInBounds_toArray, List.set_cons_zero, List.set_cons_succ]
  refine take_at 45 75 (.int .i64 (a : Nat)) rfl rfl (by kernel_rfl) (by kernel_rfl) (by kernel_rfl) (fun _ _ _ h => h) (Or.inl ⟨by rfl, by intro W hW; clear hW; go_simp⟩) hHeld ?_
  simp only [Act.put, List.setIfInBounds_toArray, List.set_cons_zero, List.set_cons_succ]
  refine wpAnyH_ready (rs := [42]) (by kernel_rfl) (by simp) ?_
  refine AllReadyH.cons rfl (fun K hK => ?_) AllReadyH.nil
  go_simp
  refine (ins_in m a _ hm ha).mono ?_
  rintro e w13 ⟨rfl, hbb⟩
  try go_simp
  have hHeld := hHeld.below hbb
  refine hK.out _ _ hHeld (fun hHeld => ?_)
  clear hK K hbb
  refine wpAnyH_ready (rs := [44]) (by kernel_rfl) (by simp) ?_
  refine AllReadyH.cons rfl (fun K hK => ?_) AllReadyH.nil
  go_simp
  refine (turn_any m _ hm).mono ?_
  rintro e w14 ⟨rfl, hbb⟩
  try go_simp
  have hHeld := hHeld.below hbb
  refine hK.out _ _ hHeld (fun hHeld => ?_)
  clear hK K hbb
  refine wpAnyH_ready (rs := [46]) (by kernel_rfl) (by simp) ?_
  refine AllReadyH.cons rfl (fun K hK => ?_) AllReadyH.nil
  go_simp
  refine (routs_turn m a _ ha).mono ?_
  rintro e w15 ⟨rfl, hbb⟩
  try go_simp
  have hHeld := hHeld.below hbb
  refine hK.out _ _ hHeld (fun hHeld => ?_)
  clear hK K hbb
  refine take_at 47 77 (.bool true) rfl rfl (by kernel_rfl) (by kernel_rfl) (by kernel_rfl) (fun _ _ _ h => h) (Or.inl ⟨by rfl, by intro W hW; clear hW; go_simp⟩) hHeld ?_
  simp only [Act.put, List.setIfInBounds_toArray, List.set_cons_zero, List.set_cons_succ]
  refine take_at 48 78 (.bool true) rfl rfl (by kernel_rfl) (by kernel_rfl) (by kernel_rfl) (fun _ _ _ h => h) (Or.inl ⟨by rfl, by intro W hW; clear hW; go_simp⟩) hHeld ?_
  simp only [Act.put, List.setIfInBounds_toArray, List.set_cons_zero, List.set_cons_succ]
  refine take_at 49 6 (.bool true) rfl rfl (by kernel_rfl) (by kernel_rfl) (by kernel_rfl) (fun _ _ _ h => h) (Or.inl ⟨by rfl, by intro W hW; clear hW; go_simp⟩) hHeld ?_
  simp only [Act.put, List.setIfInBounds_toArray, List.set_cons_zero, List.set_cons_succ]
  refine wpAnyH_done (by kernel_rfl) ?_ _
  refine NoPanic.normal ?_
  go_wp2
  go_ret
  exact ⟨rfl, hHeld.st.bel⟩
set_option maxHeartbeats 4000000 in
set_option maxRecDepth 100000 in
theorem tells_far (m : Mm.Gr) (a b : Int) (ha : Far a) (h0 : -9223372036854775808 ≤ b) (h1 : b ≤ 9223372036854775807) (w : World) (hm : Mm.Ok m) (hT : TabAt w) :
    Calls Tryd.prog 3 #[.agg (matA m), .int .i64 a, .int .i64 b] w fun e w' => e = .returned (.bool true) ∧ Below w.heap.size w w' := by
  have HE1 := Lib.hid (eq_rmat m m true (same_self _))
  have HE2 := Lib.hid (eq_rmat m m true (same_self _))
  have HT := Lib.hid hT
  clear hT
  go_enter Tryd.func3, Tryd.ntmps3
  go_wp2_with fail
  refine (alive_any _ (tabAt_new HT.out _)).mono ?_
  rintro e w1 ⟨rfl, hb1⟩
  have H1 := Lib.hid ((matAt_new w m 24).below hb1)
  go_wp2_with (refine wpList_load_row rfl 24 (.tmp 3) rfl w.heap.size rfl 24 (matA m) (0, 0) _ H1.out Tryd.underlying24 rfl (rmatInfo m) ?_)
  refine (theirs_any m _).mono ?_
  rintro e w2 ⟨rfl, hb2⟩
  have HS := Lib.hid (st_first HT.out hb1 hb2)
  clear hb1 hb2 H1
  go_wp2_with (first
    | (refine wpList_store_row rfl 28 (.tmp 7) (.tmp 15) rfl w2.heap.size (matA m) rfl rfl 28 _ (heap_alloc_new _ _) (matInfo _) (by rw [matA_size]; rfl) (matA_one _) ?_; rw [World.setRow_alloc_new])
    | (refine wpList_load_row rfl 28 (.tmp 7) rfl w2.heap.size rfl 28 (matA m) (0, 0) _ HS.out.theirs Tryd.underlying28 rfl (matInfo _) ?_))
  refine (put_no1 m a b _ ha).mono ?_
  rintro e w3 ⟨rfl, hb3⟩
  have HS3 := Lib.hid ((HS.out.below hb3).alloc (.cells (matA m) 28))
  have HN3 := Lib.hid (matAt_new w3 m 28)
  clear hb3 HS
  go_wp2_with (first
    | (refine wpList_store_row rfl 28 (.tmp 8) (.tmp 21) rfl w3.heap.size (matA m) rfl rfl 28 _ (heap_alloc_new _ _) (matInfo _) (by rw [matA_size]; rfl) (matA_one _) ?_; rw [World.setRow_alloc_new])
    | (refine wpList_load_row rfl 24 (.tmp 3) rfl w.heap.size rfl 24 (matA m) (0, 0) _ HS3.out.ours Tryd.underlying24 rfl (rmatInfo _) ?_))
  refine (rput_no1 m a b _ ha).mono ?_
  rintro e w4 ⟨rfl, hb4⟩
  have HZ := Lib.hid (ST.mk ((HS3.out.below hb4).alloc (.cells (matA m) 24)) ((HN3.out.below hb4).alloc (.cells (matA m) 24)) (matAt_new w4 m 24))
  clear hb4 HS3 HN3
  have hE1 := HE1.out
  have hE2 := HE2.out
  go_wp2_with (first
    | (refine wpList_store_row rfl 24 (.tmp 10) (.tmp 28) rfl w4.heap.size (matA m) rfl rfl 24 _ (heap_alloc_new _ _) (rmatInfo _) (by rw [matA_size]; rfl) (matA_one _) ?_; rw [World.setRow_alloc_new]))
  refine wp_region_noPanic ?_
  refine region_start (S := ST w w2.heap.size m w3.heap.size w4.heap.size m) 50 rfl (by kernel_rfl) (HZ.out.drew) (fun hHeld => ?_)
  refine take_at 0 30 (.agg (matA m)) rfl rfl (by kernel_rfl) (by kernel_rfl) (by kernel_rfl) (fun _ _ _ h => h) (yields_mat (by rfl) 28 (.tmp 8) rfl (w3.heap.size) rfl 28 m (fun W h => h.two) Tryd.underlying28 (matInfo _)) hHeld ?_
  simp only [Act.put, List.setIfInBounds_toArray, List.set_cons_zero, List.set_cons_succ]
  refine take_at 2 32 (.agg (matA m)) rfl rfl (by kernel_rfl) (by kernel_rfl) (by kernel_rfl) (fun _ _ _ h => h) (yields_mat (by rfl) 24 (.tmp 10) rfl (w4.heap.size) rfl 24 m (fun W h => h.three) Tryd.underlying24 (rmatInfo _)) hHeld ?_
  simp only [Act.put, List.setIfInBounds_toArray, List.set_cons_zero, List.set_cons_succ]
  refine wpAnyH_ready (rs := [1]) (by kernel_rfl) (by simp) ?_
  refine AllReadyH.cons rfl (fun K hK => ?_) AllReadyH.nil
  go_simp
  refine (ours_any m _).mono ?_
  rintro e w5 ⟨rfl, hbb⟩
  try go_simp
  have hHeld := hHeld.below hbb
  refine hK.out _ _ hHeld (fun hHeld => ?_)
  clear hK K hbb
  refine take_at 3 33 (.bool true) rfl rfl (by kernel_rfl) (by kernel_rfl) (by kernel_rfl) (fun _ _ _ h => h) (Or.inl ⟨by rfl, by intro W hW; clear hW; go_simp⟩) hHeld ?_
  simp only [Act.put, List.setIfInBounds_toArray, List.set_cons_zero, List.set_cons_succ]
  refine take_at 4 34 (.bool true) rfl rfl (by kernel_rfl) (by kernel_rfl) (by kernel_rfl) (fun _ _ _ h => h) (Or.inl ⟨by rfl, by intro W hW; clear hW; go_simp⟩) hHeld ?_
  simp only [Act.put, List.setIfInBounds_toArray, List.set_cons_zero, List.set_cons_succ]
  refine take_at 5 35 (.bool false) rfl rfl (by kernel_rfl) (by kernel_rfl) (by kernel_rfl) (fun _ _ _ h => h) (Or.inl ⟨by rfl, by intro W hW; clear hW; go_simp⟩) hHeld ?_
  simp only [Act.put, List.setIfInBounds_toArray, List.set_cons_zero, List.set_cons_succ]
  refine take_at 6 36 (.bool false) rfl rfl (by kernel_rfl) (by kernel_rfl) (by kernel_rfl) (fun _ _ _ h => h) (Or.inl ⟨by rfl, by intro W hW; clear hW; go_simp⟩) hHeld ?_
  simp only [Act.put, List.setIfInBounds_toArray, List.set_cons_zero, List.set_cons_succ]
  refine take_at 7 37 (.bool true) rfl rfl (by kernel_rfl) (by kernel_rfl) (by kernel_rfl) (fun _ _ _ h => h) (Or.inl ⟨by rfl, by intro W hW; clear hW; go_simp⟩) hHeld ?_
  simp only [Act.put, List.setIfInBounds_toArray, List.set_cons_zero, List.set_cons_succ]
  refine take_at 8 38 (.bool true) rfl rfl (by kernel_rfl) (by kernel_rfl) (by kernel_rfl) (fun _ _ _ h => h) (Or.inl ⟨by rfl, by intro W hW; clear hW; go_simp⟩) hHeld ?_
  simp only [Act.put, List.setIfInBounds_toArray, List.set_cons_zero, List.set_cons_succ]
  refine take_at 9 39 (.bool true) rfl rfl (by kernel_rfl) (by kernel_rfl) (by kernel_rfl) (fun _ _ _ h => h) (Or.inl ⟨by rfl, by intro W hW; clear hW; go_simp⟩) hHeld ?_
  simp only [Act.put, List.setIfInBounds_toArray, List.set_cons_zero, List.set_cons_succ]
  refine take_at 10 40 (.agg (matA m)) rfl rfl (by kernel_rfl) (by kernel_rfl) (by kernel_rfl) (fun _ _ _ h => h) (yields_mat (by rfl) 28 (.tmp 7) rfl (w2.heap.size) rfl 28 m (fun W h => h.st.theirs) Tryd.underlying28 (matInfo _)) hHeld ?_
  simp only [Act.put, List.setIfInBounds_toArray, List.set_cons_zero, List.set_cons_succ]
  refine take_at 11 41 (.int .i64 a) rfl rfl (by kernel_rfl) (by kernel_rfl) (by kernel_rfl) (fun _ _ _ h => h) (Or.inl ⟨by rfl, by intro W hW; clear hW; go_simp⟩) hHeld ?_
  simp only [Act.put, List.setIfInBounds_toArray, List.set_cons_zero, List.set_cons_succ]
  refine take_at 14 44 (.agg (matA m)) rfl rfl (by kernel_rfl) (by kernel_rfl) (by kernel_rfl) (fun _ _ _ h => h) (yields_mat (by rfl) 24 (.tmp 3) rfl (w.heap.size) rfl 24 m (fun W h => h.st.ours) Tryd.underlying24 (rmatInfo _)) hHeld ?_
  simp only [Act.put, List.setIfInBounds_toArray, List.set_cons_zero, List.set_cons_succ]
  refine take_at 15 45 (.int .i64 a) rfl rfl (by kernel_rfl) (by kernel_rfl) (by kernel_rfl) (fun _ _ _ h => h) (Or.inl ⟨by rfl, by intro W hW; clear hW; go_simp⟩) hHeld ?_
  simp only [Act.put, List.setIfInBounds_toArray, List.set_cons_zero, List.set_cons_succ]
  refine wpAnyH_ready (rs := [12]) (by kernel_rfl) (by simp) ?_
  refine AllReadyH.cons rfl (fun K hK => ?_) AllReadyH.nil
  go_simp
  refine (cut_far m a _ ha).mono ?_
  rintro e w6 ⟨rfl, hbb⟩
  try go_simp
  have hHeld := hHeld.below hbb
  refine hK.out _ _ hHeld (fun hHeld => ?_)
  clear hK K hbb
  refine wpAnyH_ready (rs := [13]) (by kernel_rfl) (by simp) ?_
  refine AllReadyH.cons rfl (fun K hK => ?_) AllReadyH.nil
  go_simp
  refine (ours_any m _).mono ?_
  rintro e w7 ⟨rfl, hbb⟩
  try go_simp
  have hHeld := hHeld.below hbb
  refine hK.out _ _ hHeld (fun hHeld => ?_)
  clear hK K hbb
  refine wpAnyH_ready (rs := [16]) (by kernel_rfl) (by simp) ?_
  refine AllReadyH.cons rfl (fun K hK => ?_) AllReadyH.nil
  go_simp
  refine (rcut_far m a _ ha).mono ?_
  rintro e w8 ⟨rfl, hbb⟩
  try go_simp
  have hHeld := hHeld.below hbb
  refine hK.out _ _ hHeld (fun hHeld => ?_)
  clear hK K hbb
  refine take_at 17 47 (.bool true) rfl rfl (by kernel_rfl) (by kernel_rfl) (by kernel_rfl) (fun _ _ _ h => h) (Or.inl ⟨by rfl, by intro W hW; clear hW; go_simp⟩) hHeld ?_
  simp only [Act.put, List.setIfInBounds_toArray, List.set_cons_zero, List.set_cons_succ]
  refine take_at 18 48 (.bool true) rfl rfl (by kernel_rfl) (by kernel_rfl) (by kernel_rfl) (fun _ _ _ h => h) (Or.inl ⟨by rfl, by intro W hW; clear hW; go_simp⟩) hHeld ?_
  simp only [Act.put, List.setIfInBounds_toArray, List.set_cons_zero, List.set_cons_succ]
  refine take_at 19 49 (.bool true) rfl rfl (by kernel_rfl) (by kernel_rfl) (by kernel_rfl) (fun _ _ _ h => h) (Or.inl ⟨by rfl, by intro W hW; clear hW; go_simp⟩) hHeld ?_
  simp only [Act.put, List.setIfInBounds_toArray, List.set_cons_zero, List.set_cons_succ]
  refine take_at 20 50 (.agg (matA m)) rfl rfl (by kernel_rfl) (by kernel_rfl) (by kernel_rfl) (fun _ _ _ h => h) (yields_mat (by rfl) 28 (.tmp 7) rfl (w2.heap.size) rfl 28 m (fun W h => h.st.theirs) Tryd.underlying28 (matInfo _)) hHeld ?_
  simp only [Act.put, List.setIfInBounds_toArray, List.set_cons_zero, List.set_cons_succ]
  refine take_at 21 51 (.int .i64 a) rfl rfl (by kernel_rfl) (by kernel_rfl) (by kernel_rfl) (fun _ _ _ h => h) (Or.inl ⟨by rfl, by intro W hW; clear hW; go_simp⟩) hHeld ?_
  simp only [Act.put, List.setIfInBounds_toArray, List.set_cons_zero, List.set_cons_succ]
  refine take_at 22 52 (.int .i64 b) rfl rfl (by kernel_rfl) (by kernel_rfl) (by kernel_rfl) (fun _ _ _ h => h) (Or.inl ⟨by rfl, by intro W hW; clear hW; go_simp⟩) hHeld ?_
  simp only [Act.put, List.setIfInBounds_toArray, List.set_cons_zero, List.set_cons_succ]
  refine take_at 24 54 (.agg (matA m)) rfl rfl (by kernel_rfl) (by kernel_rfl) (by kernel_rfl) (fun _ _ _ h => h) (yields_mat (by rfl) 24 (.tmp 3) rfl (w.heap.size) rfl 24 m (fun W h => h.st.ours) Tryd.underlying24 (rmatInfo _)) hHeld ?_
  simp only [Act.put, List.setIfInBounds_toArray, List.set_cons_zero, List.set_cons_succ]
  refine take_at 25 55 (.int .i64 a) rfl rfl (by kernel_rfl) (by kernel_rfl) (by kernel_rfl) (fun _ _ _ h => h) (Or.inl ⟨by rfl, by intro W hW; clear hW; go_simp⟩) hHeld ?_
  simp only [Act.put, List.setIfInBounds_toArray, List.set_cons_zero, List.set_cons_succ]
  refine take_at 26 56 (.int .i64 b) rfl rfl (by kernel_rfl) (by kernel_rfl) (by kernel_rfl) (fun _ _ _ h => h) (Or.inl ⟨by rfl, by intro W hW; clear hW; go_simp⟩) hHeld ?_
  simp only [Act.put, List.setIfInBounds_toArray, List.set_cons_zero, List.set_cons_succ]
  refine wpAnyH_ready (rs := [23]) (by kernel_rfl) (by simp) ?_
  refine AllReadyH.cons rfl (fun K hK => ?_) AllReadyH.nil
  go_simp
  refine (mhas_far m a b _ ha h0 h1).mono ?_
  rintro e w9 ⟨rfl, hbb⟩
  try go_simp
  have hHeld := hHeld.below hbb
  refine hK.out _ _ hHeld (fun hHeld => ?_)
  clear hK K hbb
  refine wpAnyH_ready (rs := [27]) (by kernel_rfl) (by simp) ?_
  refine AllReadyH.cons rfl (fun K hK => ?_) AllReadyH.nil
  go_simp
  refine (rmhas_far1 m a b _ ha).mono ?_
  rintro e w10 ⟨rfl, hbb⟩
  try go_simp
  have hHeld := hHeld.below hbb
  refine hK.out _ _ hHeld (fun hHeld => ?_)
  clear hK K hbb
  refine take_at 28 58 (.bool true) rfl rfl (by kernel_rfl) (by kernel_rfl) (by kernel_rfl) (fun _ _ _ h => h) (Or.inl ⟨by rfl, by intro W hW; clear hW; go_simp⟩) hHeld ?_
  simp only [Act.put, List.setIfInBounds_toArray, List.set_cons_zero, List.set_cons_succ]
  refine take_at 29 59 (.bool true) rfl rfl (by kernel_rfl) (by kernel_rfl) (by kernel_rfl) (fun _ _ _ h => h) (Or.inl ⟨by rfl, by intro W hW; clear hW; go_simp⟩) hHeld ?_
  simp only [Act.put, List.setIfInBounds_toArray, List.set_cons_zero, List.set_cons_succ]
  refine take_at 30 60 (.bool true) rfl rfl (by kernel_rfl) (by kernel_rfl) (by kernel_rfl) (fun _ _ _ h => h) (Or.inl ⟨by rfl, by intro W hW; clear hW; go_simp⟩) hHeld ?_
  simp only [Act.put, List.setIfInBounds_toArray, List.set_cons_zero, List.set_cons_succ]
  refine take_at 31 61 (.agg (matA m)) rfl rfl (by kernel_rfl) (by kernel_rfl) (by kernel_rfl) (fun _ _ _ h => h) (yields_mat (by rfl) 28 (.tmp 7) rfl (w2.heap.size) rfl 28 m (fun W h => h.st.theirs) Tryd.underlying28 (matInfo _)) hHeld ?_
  simp only [Act.put, List.setIfInBounds_toArray, List.set_cons_zero, List.set_cons_succ]
  refine take_at 32 62 (.int .i64 a) rfl rfl (by kernel_rfl) (by kernel_rfl) (by kernel_rfl) (fun _ _ _ h => h) (Or.inl ⟨by rfl, by intro W hW; clear hW; go_simp⟩) hHeld ?_
  simp only [Act.put, List.setIfInBounds_toArray, List.set_cons_zero, List.set_cons_succ]
  refine take_at 34 64 (.agg (matA m)) rfl rfl (by kernel_rfl) (by kernel_rfl) (by kernel_rfl) (fun _ _ _ h => h) (yields_mat (by rfl) 24 (.tmp 3) rfl (w.heap.size) rfl 24 m (fun W h => h.st.ours) Tryd.underlying24 (rmatInfo _)) hHeld ?_
  simp only [Act.put, List.setIfInBounds_toArray, List.set_cons_zero, List.set_cons_succ]
  refine take_at 35 65 (.int .i64 a) rfl rfl (by kernel_rfl) (by kernel_rfl) (by kernel_rfl) (fun _ _ _ h => h) (Or.inl ⟨by rfl, by intro W hW; clear hW; go_simp⟩) hHeld ?_
  simp only [Act.put, List.setIfInBounds_toArray, List.set_cons_zero, List.set_cons_succ]
  refine wpAnyH_ready (rs := [33]) (by kernel_rfl) (by simp) ?_
  refine AllReadyH.cons rfl (fun K hK => ?_) AllReadyH.nil
  go_simp
  refine (outs_far m a _ ha).mono ?_
  rintro e w11 ⟨rfl, hbb⟩
  try go_simp
  have hHeld := hHeld.below hbb
  refine hK.out _ _ hHeld (fun hHeld => ?_)
  clear hK K hbb
  refine wpAnyH_ready (rs := [36]) (by kernel_rfl) (by simp) ?_
  refine AllReadyH.cons rfl (fun K hK => ?_) AllReadyH.nil
  go_simp
  refine (routs_far m a _ ha).mono ?_
  rintro e w12 ⟨rfl, hbb⟩
  try go_simp
  have hHeld := hHeld.below hbb
  refine hK.out _ _ hHeld (fun hHeld => ?_)
  clear hK K hbb
  refine take_at 37 67 (.bool true) rfl rfl (by kernel_rfl) (by kernel_rfl) (by kernel_rfl) (fun _ _ _ h => h) (Or.inl ⟨by rfl, by intro W hW; clear hW; go_simp⟩) hHeld ?_
  simp only [Act.put, List.setIfInBounds_toArray, List.set_cons_zero, List.set_cons_succ]
  refine take_at 38 68 (.bool true) rfl rfl (by kernel_rfl) (by kernel_rfl) (by kernel_rfl) (fun _ _ _ h => h) (Or.inl ⟨by rfl, by intro W hW; clear hW; go_simp⟩) hHeld ?_
  simp only [Act.put, List.setIfInBounds_toArray, List.set_cons_zero, List.set_cons_succ]
  refine take_at 39 69 (.bool true) rfl rfl (by kernel_rfl) (by kernel_rfl) (by kernel_rfl) (fun _ _ _ h => h) (Or.inl ⟨by rfl, by intro W hW; clear hW; go_simp⟩) hHeld ?_
  simp only [Act.put, List.setIfInBounds_toArray, List.set_cons_zero, List.set_cons_succ]
  refine take_at 40 70 (.agg (matA m)) rfl rfl (by kernel_rfl) (by kernel_rfl) (by kernel_rfl) (fun _ _ _ h => h) (yields_mat (by rfl) 28 (.tmp 7) rfl (w2.heap.size) rfl 28 m (fun W h => h.st.theirs) Tryd.underlying28 (matInfo _)) hHeld ?_
  simp only [Act.put, List.setIfInBounds_toArray, List.set_cons_zero, List.set_cons_succ]
  refine take_at 41 71 (.int .i64 a) rfl rfl (by kernel_rfl) (by kernel_rfl) (by kernel_rfl) (fun _ _ _ h => h) (Or.inl ⟨by rfl, by intro W hW; clear hW; go_simp⟩) hHeld ?_
  simp only [Act.put, List.setIfInBounds_toArray, List.set_cons_zero, List.set_cons_succ]
  refine take_at 43 73 (.agg (matA m)) rfl rfl (by kernel_rfl) (by kernel_rfl) (by kernel_rfl) (fun _ _ _ h => h) (yields_mat (by rfl) 24 (.tmp 3) rfl (w.heap.size) rfl 24 m (fun W h => h.st.ours) Tryd.underlying24 (rmatInfo _)) hHeld ?_
  simp only [Act.put, List.setIfInBounds_toArray, List.set_cons_zero, List.set_cons_succ]
  refine take_at 45 75 (.int .i64 a) rfl rfl (by kernel_rfl) (by kernel_rfl) (by kernel_rfl) (fun _ _ _ h => h) (Or.inl ⟨by rfl, by intro W hW; clear hW; go_simp⟩) hHeld ?_
  simp only [Act.put, List.setIfInBounds_toArray, List.set_cons_zero, List.set_cons_succ]
  refine wpAnyH_ready (rs := [42]) (by kernel_rfl) (by simp) ?_
  refine AllReadyH.cons rfl (fun K hK => ?_) AllReadyH.nil
  go_simp
  refine (ins_far m a _ ha).mono ?_
  rintro e w13 ⟨rfl, hbb⟩
  try go_simp
  have hHeld := hHeld.below hbb
  refine hK.out _ _ hHeld (fun hHeld => ?_)
  clear hK K hbb
  refine wpAnyH_ready (rs := [44]) (by kernel_rfl) (by simp) ?_
  refine AllReadyH.cons rfl (fun K hK => ?_) AllReadyH.nil
  go_simp
  refine (turn_any m _ hm).mono ?_
  rintro e w14 ⟨rfl, hbb⟩
  try go_simp
  have hHeld := hHeld.below hbb
  refine hK.out _ _ hHeld (fun hHeld => ?_)
  clear hK K hbb
  refine wpAnyH_ready (rs := [46]) (by kernel_rfl) (by simp) ?_
  refine AllReadyH.cons rfl (fun K hK => ?_) AllReadyH.nil
  go_simp
  refine (routs_far (turn m) a _ ha).mono ?_
  rintro e w15 ⟨rfl, hbb⟩
  try go_simp
  have hHeld := hHeld.below hbb
  refine hK.out _ _ hHeld (fun hHeld => ?_)
  clear hK K hbb
  refine take_at 47 77 (.bool true) rfl rfl (by kernel_rfl) (by kernel_rfl) (by kernel_rfl) (fun _ _ _ h => h) (Or.inl ⟨by rfl, by intro W hW; clear hW; go_simp⟩) hHeld ?_
  simp only [Act.put, List.setIfInBounds_toArray, List.set_cons_zero, List.set_cons_succ]
  refine take_at 48 78 (.bool true) rfl rfl (by kernel_rfl) (by kernel_rfl) (by kernel_rfl) (fun _ _ _ h => h) (Or.inl ⟨by rfl, by intro W hW; clear hW; go_simp⟩) hHeld ?_
  simp only [Act.put, List.setIfInBounds_toArray, List.set_cons_zero, List.set_cons_succ]
  refine take_at 49 6 (.bool true) rfl rfl (by kernel_rfl) (by kernel_rfl) (by kernel_rfl) (fun _ _ _ h => h) (Or.inl ⟨by rfl, by intro W hW; clear hW; go_simp⟩) hHeld ?_
  simp only [Act.put, List.setIfInBounds_toArray, List.set_cons_zero, List.set_cons_succ]
  refine wpAnyH_done (by kernel_rfl) ?_ _
  refine NoPanic.normal ?_
  go_wp2
  go_ret
  exact ⟨rfl, hHeld.st.bel⟩
theorem matTells_any (m : Mm.Gr) (a b : Int) (w : World) (hm : Mm.Ok m) (h0 : -9223372036854775808 ≤ a) (h1 : a ≤ 9223372036854775807) (h2 : -9223372036854775808 ≤ b) (h3 : b ≤ 9223372036854775807) (hT : TabAt w) :
    Calls Tryd.prog 3 #[.agg (matA m), .int .i64 a, .int .i64 b] w fun e w' => e = .returned (.bool true) ∧ Below w.heap.size w w' := by
  by_cases hn : a < 0 ∨ 32 ≤ a
  · exact tells_far m a b ⟨⟨h0, h1⟩, hn⟩ h2 h3 w hm hT
  · obtain ⟨k, rfl⟩ := Int.eq_ofNat_of_zero_le (by omega : 0 ≤ a)
    by_cases hq : b < 0 ∨ 32 ≤ b
    · exact tells_out m k b (by omega) ⟨⟨h2, h3⟩, hq⟩ w hm hT
    · obtain ⟨j, rfl⟩ := Int.eq_ofNat_of_zero_le (by omega : 0 ≤ b)
      by_cases he : k = j
      · subst he
        exact tells_same m k (by omega) w hm hT
      · exact tells_edge m k j (by omega) (by omega) he w hm hT
end Go.Proofs.YtjciikdhjgekgaaDoor
