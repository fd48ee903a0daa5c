/-
  The walk of TopoRefuses.
-/
import Derived.Test.YtgelfjoacppkcaaDoorTopoEdges
namespace Go.Proofs.YtgelfjoacppkcaaDoor
open Go.RowKit
attribute [local go_sem ↓] Go.wp_at_zero Go.wp_at_succ
def RfRel (w : World) (g : Nat) (es : Nat → Int × Int) (n : Nat) (ea eb : Int) (i : Value) (wr : World) : Prop :=
  ∃ k : Nat, k ≤ n ∧ i = .int .i64 k ∧ GSt w g (g + 1) (growTo es k).1 (growTo es k).2 wr ∧ wr.cell? ⟨w.heap.size, 0, none⟩ = some (.int .i64 ea) ∧ wr.cell? ⟨w.heap.size, 1, none⟩ = some (.int .i64 eb)
set_option maxHeartbeats 4000000 in
set_option maxRecDepth 100000 in
theorem topoRefuses_few (A : Option Addr) (n c : Nat) (es : Nat → Int × Int) (ea eb : Int) (w : World) (hE : EdgesAt w A n c es) (hea : i64p ea) (heb : i64p eb) (hn : n ≤ 80) (hT : TabAt w) :
    Calls Tryd.prog 5 #[.slice A n c, .agg #[.int .i64 ea, .int .i64 eb]] w fun e w' => e = .returned (.bool true) ∧ Below w.heap.size w w' := by
  have HE := Lib.hid hE
  have HT := Lib.hid hT
  have hx0 : (w.alloc (.cells #[.int .i64 ea, .int .i64 eb] 28)).cell? ⟨w.heap.size, 0, none⟩ = some (.int .i64 ea) := by rw [cell_of_row _ _ _ _ _ _ (heap_alloc_new _ _)]; rfl
  have hx1 : (w.alloc (.cells #[.int .i64 ea, .int .i64 eb] 28)).cell? ⟨w.heap.size, 1, none⟩ = some (.int .i64 eb) := by rw [cell_of_row _ _ _ _ _ _ (heap_alloc_new _ _)]; rfl
  have HX0 := Lib.hid hx0
  have HX1 := Lib.hid hx1
  clear hE hT hx0 hx1
  go_enter Tryd.func5, Tryd.ntmps5
  go_wp2_with fail
  refine (alive_any _ (tabAt_new HT.out _)).mono ?_
  rintro e w1 ⟨rfl, hb1⟩
  have HB1 := Lib.hid ((below_new w (.cells #[.int .i64 ea, .int .i64 eb] 28)).trans (hb1.mono (below_new w (.cells #[.int .i64 ea, .int .i64 eb] 28)).size))
  have HY0 := Lib.hid (cell_keep HX0.out hb1)
  have HY1 := Lib.hid (cell_keep HX1.out hb1)
  clear hb1 HX0 HX1
  go_wp2_with fail
  refine (new_any _).mono ?_
  rintro e w2 ⟨rfl, hb2⟩
  have HB2 := Lib.hid (HB1.out.trans (hb2.mono HB1.out.size))
  have HZ0 := Lib.hid (cell_keep HY0.out hb2)
  have HZ1 := Lib.hid (cell_keep HY1.out hb2)
  clear hb2 HB1 HY0 HY1
  go_wp2_with (refine wpList_let2 rfl rfl 32 34 (.tmp 5) (.tmp 19) (.tmp 6) (.tmp 20) rfl rfl rfl rfl w2 zeroM Od.newO rfl rfl (by rw [zero_row]; rfl) rfl rfl rfl rfl mat_info ord_info ?_; intro wx hM hO hB)
  have HG := Lib.hid (show GSt w w2.heap.size (w2.heap.size + 1) zeroM Od.newO wx from ⟨hM, hO, tab_keep HT.out (HB2.out.trans (hB.mono HB2.out.size)), HB2.out.trans (hB.mono HB2.out.size)⟩)
  have HU0 := Lib.hid (cell_keep HZ0.out hB)
  have HU1 := Lib.hid (cell_keep HZ1.out hB)
  have hwg : w.heap.size < w2.heap.size := cell_lt HZ0.out
  clear hM hO hB HZ0 HZ1
  go_loopw [23] (RfRel w w2.heap.size es n ea eb) (fun i _ => 80 - (intOf i).toNat)
  case atStart => exact ⟨0, by omega, rfl, HG.out, HU0.out, HU1.out⟩
  case round =>
    obtain ⟨k, hk, rfl, hG, hc0, hc1⟩ := hrel
    have HGr := Lib.hid hG
    have HC0 := Lib.hid hc0
    have HC1 := Lib.hid hc1
    clear hG hc0 hc1
    by_cases hlt : k < n
    · obtain ⟨ad, rfl, hcs⟩ := HE.out.2.2 (by omega)
      obtain ⟨d0, d1, r0, r1⟩ := hcs k hlt
      have e0 := (HGr.out.bel.cell (cell_lt d0)).trans d0
      have e1 := (HGr.out.bel.cell (cell_lt d1)).trans d1
      have e2 := edge_second e1
      have HR0 := Lib.hid r0
      have HR1 := Lib.hid r1
      clear hcs d0 d1 e1 r0 r1
      go_wp2_with (first
        | (refine wpList_load_row rfl 32 (.tmp 5) rfl w2.heap.size rfl 32 (matA (growTo es k).1) (0, 0) _ (HGr.out.below (below_new _ _)).gr Tryd.underlying32 rfl (matInfo _) ?_)
        | (refine wpList_load_row rfl 34 (.tmp 6) rfl (w2.heap.size + 1) rfl 34 (ordA (growTo es k).2) (0, 0) _ (HGr.out.below (below_new _ _)).od Tryd.underlying34 rfl (ordInfo _) ?_))
      refine (insert_any _ _ _ _ _ (grow_ok es k) (grow_sorted es k).1.ok HR0.out HR1.out (HGr.out.below (below_new _ _)).tab).mono ?_
      rintro e w3 ⟨rfl, hb3⟩
      have HG3 := Lib.hid ((HGr.out.below (below_new _ _)).below hb3)
      have HD0 := Lib.hid (cell_keep (cell_keep HC0.out (below_new _ _)) hb3)
      have HD1 := Lib.hid (cell_keep (cell_keep HC1.out (below_new _ _)) hb3)
      have hws := HB2.out.size
      clear hb3 HGr HC0 HC1
      go_wp2_with (refine wpList_set2 rfl rfl 32 34 (.tmp 5) (.tmp 35) (.tmp 6) (.tmp 36) rfl rfl rfl rfl w2.heap.size (w2.heap.size + 1) _ _ _ _ rfl rfl rfl rfl HG3.out.gr HG3.out.od mat_info ord_info ?_; intro wy hM hO hS hN)
      have hbel := hS _ _ HG3.out.bel hws (by omega)
      exact ⟨⟨k + 1, by omega, by go_num, ⟨hM, hO, tab_keep HT.out hbel, hbel⟩, cell_same HD0.out (hN _ (by simp; omega) (by simp; omega)), cell_same HD1.out (hN _ (by simp; omega) (by simp; omega))⟩, by simp [intOf]; omega⟩
    · obtain rfl : k = n := by omega
      have HSt := Lib.hid (grow_sorted es k)
      have HOk := Lib.hid (grow_ok es k)
      generalize (growTo es k).1 = M at *
      generalize (growTo es k).2 = O at *
      clear HE
      have c0 := HC0.out
      have c1 := HC1.out
      by_cases hMay : Od.May ea eb
      · have hs := HSt.out
        obtain ⟨⟨a0, a1⟩, ⟨b0, b1⟩, hne⟩ := hMay
        obtain ⟨x, rfl⟩ := Int.eq_ofNat_of_zero_le a0
        obtain ⟨y, rfl⟩ := Int.eq_ofNat_of_zero_le b0
        have hx : x < 32 := by omega
        have hy : y < 32 := by omega
        have hxy : x ≠ y := by omega
        have HNk := Lib.hid (Mm.put_ok x y HOk.out)
        rcases ins_may hx hy hxy hs with ⟨q, hins, hsq, hfr⟩ | ⟨hins, hfr⟩
        · have HIns := Lib.hid hins
          have HSq := Lib.hid hsq
          have HFr := Lib.hid hfr
          clear hins hsq hfr hs a0 a1 b0 b1 hne
          go_wp2_with (first
            | (refine wpList_load_want rfl 32 (.tmp 5) rfl (w2.heap.size) rfl 32 (matA M) (0, 0) _ _ HGr.out.gr Tryd.underlying32 (matInfo _) ?_))
          refine (put_yes M x y _ HOk.out hx hy hxy).mono ?_
          rintro e w4 ⟨rfl, hb4⟩
          have HG4 := Lib.hid ((HGr.out.below hb4).below (below_new w4 (.cells (matA (Mm.put M x y)) 32)))
          have HN4 := Lib.hid (matAt_new w4 (Mm.put M x y) 32)
          have c0 := cell_keep (cell_keep HC0.out hb4) (below_new w4 (.cells (matA (Mm.put M x y)) 32))
          have c1 := cell_keep (cell_keep HC1.out hb4) (below_new w4 (.cells (matA (Mm.put M x y)) 32))
          clear hb4 HGr HC0 HC1
          go_wp2_with (first
            | (refine wpList_store_row rfl 32 (.tmp 9) (.tmp 46) rfl w4.heap.size (matA (Mm.put M x y)) rfl rfl 32 _ (heap_alloc_new _ _) (matInfo _) (by rw [matA_size]; rfl) (matA_one _) ?_; rw [World.setRow_alloc_new])
            | (refine wpList_load_want rfl 32 (.tmp 5) rfl (w2.heap.size) rfl 32 (matA M) (0, 0) _ _ HG4.out.gr Tryd.underlying32 (matInfo _) ?_)
            | (refine wpList_load_want rfl 34 (.tmp 6) rfl (w2.heap.size + 1) rfl 34 (ordA O) (0, 0) _ _ HG4.out.od Tryd.underlying34 (ordInfo _) ?_))
          refine (insert_val M O _ _ _ _ HOk.out HSt.out.1.ok hea heb HG4.out.tab HIns.out).mono ?_
          rintro e w5 ⟨rfl, hb5⟩
          have HG5 := Lib.hid (HG4.out.below hb5)
          have HN5 := Lib.hid (HN4.out.below hb5)
          clear hb5 HG4 HN4
          go_wp2_with (first
            | (refine wpList_let2 rfl rfl 32 34 (.tmp 11) (.tmp 56) (.tmp 12) (.tmp 57) rfl rfl rfl rfl w5 (Mm.put M x y) q rfl rfl rfl rfl rfl rfl rfl mat_info ord_info ?_; intro wz hM hO hB; have HG6 := Lib.hid (HG5.out.below hB); have HN6 := Lib.hid (HN5.out.below hB); have HX6 := Lib.hid hM; have HQ6 := Lib.hid hO; clear hM hO hB)
            | (refine wpList_load_want rfl 32 (.tmp 9) rfl (w4.heap.size) rfl 32 (matA (Mm.put M x y)) (0, 0) _ _ HN6.out Tryd.underlying32 (matInfo _) ?_))
          refine (free_val (Mm.put M x y) true _ HNk.out HG6.out.tab HFr.out).mono ?_
          rintro e w7 ⟨rfl, hb7⟩
          have HG7 := Lib.hid (HG6.out.below hb7)
          have HN7 := Lib.hid (HN6.out.below hb7)
          have HX7 := Lib.hid (HX6.out.below hb7)
          have HQ7 := Lib.hid (HQ6.out.below hb7)
          clear hb7 HG6 HN6 HX6 HQ6
          have hE1 := eq_mat (Mm.put M x y) (Mm.put M x y) true (sameM_self _)
          go_wp2_with (first
            | (refine wpList_load_want rfl 32 (.tmp 11) rfl (w5.heap.size) rfl 32 (matA (Mm.put M x y)) (0, 0) _ _ HX7.out Tryd.underlying32 (matInfo _) ?_)
            | (refine wpList_load_want rfl 32 (.tmp 9) rfl (w4.heap.size) rfl 32 (matA (Mm.put M x y)) (0, 0) _ _ HN7.out Tryd.underlying32 (matInfo _) ?_)
            | (refine wpList_load_want rfl 34 (.tmp 12) rfl (w5.heap.size + 1) rfl 34 (ordA q) (0, 0) _ _ HQ7.out Tryd.underlying34 (ordInfo _) ?_))
          refine (sorted_val (Mm.put M x y) q true _ HNk.out HSq.out.1.ok HG7.out.tab (Od.sortedB_yes HSq.out)).mono ?_
          rintro e w8 ⟨rfl, hb8⟩
          go_wp2
          go_ret
          exact ⟨rfl, (HG7.out.below hb8).bel⟩
        · have HIns := Lib.hid hins
          have HFr := Lib.hid hfr
          clear hins hfr hs a0 a1 b0 b1 hne
          go_wp2_with (first
            | (refine wpList_load_want rfl 32 (.tmp 5) rfl (w2.heap.size) rfl 32 (matA M) (0, 0) _ _ HGr.out.gr Tryd.underlying32 (matInfo _) ?_))
          refine (put_yes M x y _ HOk.out hx hy hxy).mono ?_
          rintro e w4 ⟨rfl, hb4⟩
          have HG4 := Lib.hid ((HGr.out.below hb4).below (below_new w4 (.cells (matA (Mm.put M x y)) 32)))
          have HN4 := Lib.hid (matAt_new w4 (Mm.put M x y) 32)
          have c0 := cell_keep (cell_keep HC0.out hb4) (below_new w4 (.cells (matA (Mm.put M x y)) 32))
          have c1 := cell_keep (cell_keep HC1.out hb4) (below_new w4 (.cells (matA (Mm.put M x y)) 32))
          clear hb4 HGr HC0 HC1
          go_wp2_with (first
            | (refine wpList_store_row rfl 32 (.tmp 9) (.tmp 46) rfl w4.heap.size (matA (Mm.put M x y)) rfl rfl 32 _ (heap_alloc_new _ _) (matInfo _) (by rw [matA_size]; rfl) (matA_one _) ?_; rw [World.setRow_alloc_new])
            | (refine wpList_load_want rfl 32 (.tmp 5) rfl (w2.heap.size) rfl 32 (matA M) (0, 0) _ _ HG4.out.gr Tryd.underlying32 (matInfo _) ?_)
            | (refine wpList_load_want rfl 34 (.tmp 6) rfl (w2.heap.size + 1) rfl 34 (ordA O) (0, 0) _ _ HG4.out.od Tryd.underlying34 (ordInfo _) ?_))
          refine (insert_val M O _ _ _ _ HOk.out HSt.out.1.ok hea heb HG4.out.tab HIns.out).mono ?_
          rintro e w5 ⟨rfl, hb5⟩
          have HG5 := Lib.hid (HG4.out.below hb5)
          have HN5 := Lib.hid (HN4.out.below hb5)
          clear hb5 HG4 HN4
          go_wp2_with (first
            | (refine wpList_let2 rfl rfl 32 34 (.tmp 11) (.tmp 56) (.tmp 12) (.tmp 57) rfl rfl rfl rfl w5 M O rfl rfl rfl rfl rfl rfl rfl mat_info ord_info ?_; intro wz hM hO hB; have HG6 := Lib.hid (HG5.out.below hB); have HN6 := Lib.hid (HN5.out.below hB); have HX6 := Lib.hid hM; have HQ6 := Lib.hid hO; clear hM hO hB)
            | (refine wpList_load_want rfl 32 (.tmp 9) rfl (w4.heap.size) rfl 32 (matA (Mm.put M x y)) (0, 0) _ _ HN6.out Tryd.underlying32 (matInfo _) ?_))
          refine (free_val (Mm.put M x y) false _ HNk.out HG6.out.tab HFr.out).mono ?_
          rintro e w7 ⟨rfl, hb7⟩
          have HG7 := Lib.hid (HG6.out.below hb7)
          have HN7 := Lib.hid (HN6.out.below hb7)
          have HX7 := Lib.hid (HX6.out.below hb7)
          have HQ7 := Lib.hid (HQ6.out.below hb7)
          clear hb7 HG6 HN6 HX6 HQ6
          have hE1 := eq_mat M M true (sameM_self M)
          have hE2 := eq_ord O O true (sameO_self O)
          go_wp2_with (first
            | (refine wpList_load_want rfl 32 (.tmp 11) rfl (w5.heap.size) rfl 32 (matA M) (0, 0) _ _ HX7.out Tryd.underlying32 (matInfo _) ?_)
            | (refine wpList_load_want rfl 32 (.tmp 5) rfl (w2.heap.size) rfl 32 (matA M) (0, 0) _ _ HG7.out.gr Tryd.underlying32 (matInfo _) ?_)
            | (refine wpList_load_want rfl 34 (.tmp 12) rfl (w5.heap.size + 1) rfl 34 (ordA O) (0, 0) _ _ HQ7.out Tryd.underlying34 (ordInfo _) ?_)
            | (refine wpList_load_want rfl 34 (.tmp 6) rfl (w2.heap.size + 1) rfl 34 (ordA O) (0, 0) _ _ HG7.out.od Tryd.underlying34 (ordInfo _) ?_))
          go_ret
          exact ⟨rfl, HG7.out.bel⟩
      · have HM := Lib.hid hMay
        have HIns := Lib.hid (Od.insert_no (m := M) (o := O) (a := ea) (b := eb) fun h => hMay h.1)
        clear hMay
        go_wp2_with (first
          | (refine wpList_load_want rfl 32 (.tmp 5) rfl (w2.heap.size) rfl 32 (matA M) (0, 0) _ _ HGr.out.gr Tryd.underlying32 (matInfo _) ?_))
        refine (put_not M ea eb _ hea heb HM.out).mono ?_
        rintro e w4 ⟨rfl, hb4⟩
        have HG4 := Lib.hid ((HGr.out.below hb4).below (below_new w4 (.cells (matA M) 32)))
        have HN4 := Lib.hid (matAt_new w4 M 32)
        have c0 := cell_keep (cell_keep HC0.out hb4) (below_new w4 (.cells (matA M) 32))
        have c1 := cell_keep (cell_keep HC1.out hb4) (below_new w4 (.cells (matA M) 32))
        clear hb4 HGr HC0 HC1
        go_wp2_with (first
          | (refine wpList_store_row rfl 32 (.tmp 9) (.tmp 46) rfl w4.heap.size (matA M) rfl rfl 32 _ (heap_alloc_new _ _) (matInfo _) (by rw [matA_size]; rfl) (matA_one _) ?_; rw [World.setRow_alloc_new])
          | (refine wpList_load_want rfl 32 (.tmp 5) rfl (w2.heap.size) rfl 32 (matA M) (0, 0) _ _ HG4.out.gr Tryd.underlying32 (matInfo _) ?_)
          | (refine wpList_load_want rfl 34 (.tmp 6) rfl (w2.heap.size + 1) rfl 34 (ordA O) (0, 0) _ _ HG4.out.od Tryd.underlying34 (ordInfo _) ?_))
        refine (insert_val M O _ _ _ _ HOk.out HSt.out.1.ok hea heb HG4.out.tab HIns.out).mono ?_
        rintro e w5 ⟨rfl, hb5⟩
        have HG5 := Lib.hid (HG4.out.below hb5)
        have HN5 := Lib.hid (HN4.out.below hb5)
        clear hb5 HG4 HN4
        have hE1 := eq_mat M M true (sameM_self M)
        have hE2 := eq_ord O O true (sameO_self O)
        go_wp2_with (first
          | (refine wpList_let2 rfl rfl 32 34 (.tmp 11) (.tmp 56) (.tmp 12) (.tmp 57) rfl rfl rfl rfl w5 M O rfl rfl rfl rfl rfl rfl rfl mat_info ord_info ?_; intro wz hM hO hB; have HG6 := Lib.hid (HG5.out.below hB); have HN6 := Lib.hid (HN5.out.below hB); have HX6 := Lib.hid hM; have HQ6 := Lib.hid hO; clear hM hO hB)
          | (refine wpList_load_want rfl 32 (.tmp 11) rfl (w5.heap.size) rfl 32 (matA M) (0, 0) _ _ HX6.out Tryd.underlying32 (matInfo _) ?_)
          | (refine wpList_load_want rfl 32 (.tmp 5) rfl (w2.heap.size) rfl 32 (matA M) (0, 0) _ _ HG6.out.gr Tryd.underlying32 (matInfo _) ?_)
          | (refine wpList_load_want rfl 34 (.tmp 12) rfl (w5.heap.size + 1) rfl 34 (ordA O) (0, 0) _ _ HQ6.out Tryd.underlying34 (ordInfo _) ?_)
          | (refine wpList_load_want rfl 34 (.tmp 6) rfl (w2.heap.size + 1) rfl 34 (ordA O) (0, 0) _ _ HG6.out.od Tryd.underlying34 (ordInfo _) ?_))
        go_ret
        exact ⟨rfl, HG6.out.bel⟩
set_option maxHeartbeats 1000000 in
theorem topoRefuses_any (A : Option Addr) (n c : Nat) (es : Nat → Int × Int) (ea eb : Int) (w : World) (hE : EdgesAt w A n c es) (hea : i64p ea) (heb : i64p eb) (hT : TabAt w) :
    Calls Tryd.prog 5 #[.slice A n c, .agg #[.int .i64 ea, .int .i64 eb]] w fun e w' => e = .returned (.bool true) ∧ Below w.heap.size w w' := by
  by_cases hn : n ≤ 80
  · exact topoRefuses_few A n c es ea eb w hE hea heb hn hT
  · have hbig : (80 : Int) < (n : Int) := by omega
    have HT := Lib.hid hT
    clear hT hE
    go_enter Tryd.func5, Tryd.ntmps5
    go_wp2_with fail
    refine (alive_any _ (tabAt_new HT.out _)).mono ?_
    rintro e w1 ⟨rfl, hb1⟩
    go_wp2
    go_ret
    exact ⟨rfl, (below_new _ _).trans (hb1.mono (below_new w (.cells #[.int .i64 ea, .int .i64 eb] 28)).size)⟩
end Go.Proofs.YtgelfjoacppkcaaDoor
