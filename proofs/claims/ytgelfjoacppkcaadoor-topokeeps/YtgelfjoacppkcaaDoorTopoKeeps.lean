/-
  The walk of TopoKeeps.
-/
import Derived.Test.YtgelfjoacppkcaaDoorTopoEdges
namespace Go.Proofs.YtgelfjoacppkcaaDoor
open Go.RowKit
attribute [local go_sem ↓] Go.wp_at_zero Go.wp_at_succ
def KpRel (w : World) (g : Nat) (es : Nat → Int × Int) (n : Nat) (ea eb : Int) (i : Value) (wr : World) : Prop :=
  ∃ k : Nat, k ≤ n ∧ i = .int .i64 k ∧ GSt w g (g + 1) (growTo es k).1 (growTo es k).2 wr ∧ wr.cell? ⟨w.heap.size, 0, none⟩ = some (.int .i64 ea) ∧ wr.cell? ⟨w.heap.size, 1, none⟩ = some (.int .i64 eb)
theorem ins_keep {m : Mm.Gr} {o : Od.O} {x y : Nat} (hx : x < 32) (hy : y < 32) (hs : Od.Sorted m o) :
    Od.insert m o (x : Nat) (y : Nat) = (m, o, false) ∨ (Od.insert m o (x : Nat) (y : Nat) = (Mm.put m x y, o, true) ∧ o x < o y) ∨
    (Od.insert m o (x : Nat) (y : Nat) = (Mm.put m x y, Od.moved m o x y, true) ∧ o y ≤ o x ∧ (Od.fore m o x y).testBit x = false) := by
  by_cases hxy : x = y
  · exact .inl (Od.insert_no fun h => h.1.2.2 (by rw [hxy]))
  · by_cases hlt : o x < o y
    · exact .inr (.inl ⟨Od.insert_up hx hy hxy hs hlt, hlt⟩)
    · cases hf : (Od.fore m o x y).testBit x
      · exact .inr (.inr ⟨Od.insert_down hx hy hxy hs (by omega) hf, by omega, rfl⟩)
      · exact .inl (Od.insert_round hx hy hxy hs (by omega) hf)
/-- behind the last Insert. -/
structure KSt (w : World) (g h k : Nat) (M : Mm.Gr) (O Q : Od.O) (x y : Nat) (W : World) : Prop where
  st : GSt w g h M O W
  q : OrdAt W k Q 34
  c0 : W.cell? ⟨w.heap.size, 0, none⟩ = some (.int .i64 (x : Nat))
  c1 : W.cell? ⟨w.heap.size, 1, none⟩ = some (.int .i64 (y : Nat))
theorem KSt.below {w W W' : World} {g h k x y : Nat} {M : Mm.Gr} {O Q : Od.O} (s : KSt w g h k M O Q x y W) (hb : Below W.heap.size W W') : KSt w g h k M O Q x y W' := ⟨s.st.below hb, s.q.below hb, cell_keep s.c0 hb, cell_keep s.c1 hb⟩
def KLoop (w : World) (g h k : Nat) (M : Mm.Gr) (O Q : Od.O) (x y : Nat) (i : Value) (wr : World) : Prop := ∃ j : Nat, j ≤ 32 ∧ i = .int .i64 j ∧ KSt w g h k M O Q x y wr
set_option maxHeartbeats 4000000 in
set_option maxRecDepth 100000 in
theorem topoKeeps_few (A : Option Addr) (n c : Nat) (es : Nat → Int × Int) (ea eb : Int) (w : World) (hE : EdgesAt w A n c es) (hea : i64p ea) (heb : i64p eb) (hn : n ≤ 80) (x y : Nat) (hxe : ea = x) (hye : eb = y) (hx : x < 32) (hy : y < 32) (hT : TabAt w) :
    Calls Tryd.prog 6 #[.slice A n c, .agg #[.int .i64 ea, .int .i64 eb]] w fun e w' => e = .returned (.bool true) ∧ Below w.heap.size w w' := by
  subst hxe
  subst hye
  have HE := Lib.hid hE
  have HT := Lib.hid hT
  have hx0 : (w.alloc (.cells #[.int .i64 (x : Nat), .int .i64 (y : Nat)] 28)).cell? ⟨w.heap.size, 0, none⟩ = some (.int .i64 (x : Nat)) := by rw [cell_of_row _ _ _ _ _ _ (heap_alloc_new _ _)]; rfl
  have hx1 : (w.alloc (.cells #[.int .i64 (x : Nat), .int .i64 (y : Nat)] 28)).cell? ⟨w.heap.size, 1, none⟩ = some (.int .i64 (y : Nat)) := by rw [cell_of_row _ _ _ _ _ _ (heap_alloc_new _ _)]; rfl
  have HX0 := Lib.hid hx0
  have HX1 := Lib.hid hx1
  clear hE hT hx0 hx1
  go_enter Tryd.func6, Tryd.ntmps6
  go_wp2_with fail
  refine (alive_any _ (tabAt_new HT.out _)).mono ?_
  rintro e w1 ⟨rfl, hb1⟩
  have HB1 := Lib.hid ((below_new w (.cells #[.int .i64 (x : Nat), .int .i64 (y : Nat)] 28)).trans (hb1.mono (below_new w (.cells #[.int .i64 (x : Nat), .int .i64 (y : Nat)] 28)).size))
  have HY0 := Lib.hid (cell_keep HX0.out hb1)
  have HY1 := Lib.hid (cell_keep HX1.out hb1)
  clear hb1 HX0 HX1
  have k0 := HY0.out
  have k1 := HY1.out
  go_wp2_with fail
  refine (new_any _).mono ?_
  rintro e w2 ⟨rfl, hb2⟩
  have HB2 := Lib.hid (HB1.out.trans (hb2.mono HB1.out.size))
  have HZ0 := Lib.hid (cell_keep HY0.out hb2)
  have HZ1 := Lib.hid (cell_keep HY1.out hb2)
  clear hb2 HB1 HY0 HY1 k0 k1
  go_wp2_with (refine wpList_let2 rfl rfl 32 34 (.tmp 5) (.tmp 39) (.tmp 6) (.tmp 40) rfl rfl rfl rfl w2 zeroM Od.newO rfl rfl (by rw [zero_row]; rfl) rfl rfl rfl rfl mat_info ord_info ?_; intro wx hM hO hB)
  have HG := Lib.hid (show GSt w w2.heap.size (w2.heap.size + 1) zeroM Od.newO wx from ⟨hM, hO, tab_keep HT.out (HB2.out.trans (hB.mono HB2.out.size)), HB2.out.trans (hB.mono HB2.out.size)⟩)
  have HU0 := Lib.hid (cell_keep HZ0.out hB)
  have HU1 := Lib.hid (cell_keep HZ1.out hB)
  have hwg : w.heap.size < w2.heap.size := cell_lt HZ0.out
  clear hM hO hB HZ0 HZ1
  go_loopw [43] (KpRel w w2.heap.size es n (x : Nat) (y : Nat)) (fun i _ => 80 - (intOf i).toNat)
  case atStart => exact ⟨0, by omega, rfl, HG.out, HU0.out, HU1.out⟩
  case round =>
    obtain ⟨k, hk, rfl, hG, hc0, hc1⟩ := hrel
    have HGr := Lib.hid hG
    have HC0 := Lib.hid hc0
    have HC1 := Lib.hid hc1
    clear hG hc0 hc1
    by_cases hlt : k < n
    · obtain ⟨ad, rfl, hcs⟩ := HE.out.2.2 (by omega)
      obtain ⟨d0, d1, r0, r1⟩ := hcs k hlt
      have e0 := (HGr.out.bel.cell (cell_lt d0)).trans d0
      have e1 := (HGr.out.bel.cell (cell_lt d1)).trans d1
      have e2 := edge_second e1
      have HR0 := Lib.hid r0
      have HR1 := Lib.hid r1
      clear hcs d0 d1 e1 r0 r1
      go_wp2_with (first
        | (refine wpList_load_row rfl 32 (.tmp 5) rfl w2.heap.size rfl 32 (matA (growTo es k).1) (0, 0) _ (HGr.out.below (below_new _ _)).gr Tryd.underlying32 rfl (matInfo _) ?_)
        | (refine wpList_load_row rfl 34 (.tmp 6) rfl (w2.heap.size + 1) rfl 34 (ordA (growTo es k).2) (0, 0) _ (HGr.out.below (below_new _ _)).od Tryd.underlying34 rfl (ordInfo _) ?_))
      refine (insert_any _ _ _ _ _ (grow_ok es k) (grow_sorted es k).1.ok HR0.out HR1.out (HGr.out.below (below_new _ _)).tab).mono ?_
      rintro e w3 ⟨rfl, hb3⟩
      have HG3 := Lib.hid ((HGr.out.below (below_new _ _)).below hb3)
      have HD0 := Lib.hid (cell_keep (cell_keep HC0.out (below_new _ _)) hb3)
      have HD1 := Lib.hid (cell_keep (cell_keep HC1.out (below_new _ _)) hb3)
      have hws := HB2.out.size
      clear hb3 HGr HC0 HC1
      go_wp2_with (refine wpList_set2 rfl rfl 32 34 (.tmp 5) (.tmp 55) (.tmp 6) (.tmp 56) rfl rfl rfl rfl w2.heap.size (w2.heap.size + 1) _ _ _ _ rfl rfl rfl rfl HG3.out.gr HG3.out.od mat_info ord_info ?_; intro wy hM hO hS hN)
      have hbel := hS _ _ HG3.out.bel hws (by omega)
      exact ⟨⟨k + 1, by omega, by go_num, ⟨hM, hO, tab_keep HT.out hbel, hbel⟩, cell_same HD0.out (hN _ (by simp; omega) (by simp; omega)), cell_same HD1.out (hN _ (by simp; omega) (by simp; omega))⟩, by simp [intOf]; omega⟩
    · obtain rfl : k = n := by omega
      have HSt := Lib.hid (grow_sorted es k)
      have HOk := Lib.hid (grow_ok es k)
      generalize (growTo es k).1 = M at *
      generalize (growTo es k).2 = O at *
      clear HE
      have c0 := HC0.out
      have c1 := HC1.out
      rcases ins_keep hx hy HSt.out with hins | ⟨hins, hlt⟩ | ⟨hins, hle, hf⟩
      · have HIns := Lib.hid hins
        clear hins
        go_wp2_with (first
          | (refine wpList_load_want rfl 32 (.tmp 5) rfl (w2.heap.size) rfl 32 (matA M) (0, 0) _ _ HGr.out.gr Tryd.underlying32 (matInfo _) ?_)
          | (refine wpList_load_want rfl 34 (.tmp 6) rfl (w2.heap.size + 1) rfl 34 (ordA O) (0, 0) _ _ HGr.out.od Tryd.underlying34 (ordInfo _) ?_))
        refine (insert_val M O _ _ _ _ HOk.out HSt.out.1.ok hea heb HGr.out.tab HIns.out).mono ?_
        rintro e w5 ⟨rfl, hb5⟩
        have HG5 := Lib.hid (HGr.out.below hb5)
        have HD0 := Lib.hid (cell_keep HC0.out hb5)
        have HD1 := Lib.hid (cell_keep HC1.out hb5)
        clear hb5 HGr HC0 HC1 c0 c1
        go_wp2_with (refine wpList_let2 rfl rfl 32 34 (.tmp 9) (.tmp 67) (.tmp 10) (.tmp 68) rfl rfl rfl rfl w5 M O rfl rfl rfl rfl rfl rfl rfl mat_info ord_info ?_; intro wz hM hO hB; have HK := Lib.hid (show KSt w w2.heap.size (w2.heap.size + 1) (w5.heap.size + 1) M O O x y wz from ⟨HG5.out.below hB, hO, cell_keep HD0.out hB, cell_keep HD1.out hB⟩); clear hM hO hB)
        refine wp_region_noPanic ?_
        refine region_start (S := KSt w w2.heap.size (w2.heap.size + 1) (w5.heap.size + 1) M O O x y) 13 rfl (by kernel_rfl) (HK.out.below (below_drew _)) (fun hHeld => ?_)
        refine take_at 0 70 (.bool false) rfl rfl (by kernel_rfl) (by kernel_rfl) (by kernel_rfl) (fun _ _ _ h => h) (Or.inl ⟨by rfl, by intro W hW; clear hW; go_simp⟩) hHeld ?_
        simp only [put_laws]
        refine take_at 1 71 (.bool true) rfl rfl (by kernel_rfl) (by kernel_rfl) (by kernel_rfl) (fun _ _ _ h => h) (Or.inl ⟨by rfl, by intro W hW; clear hW; go_simp⟩) hHeld ?_
        simp only [put_laws]
        refine take_at 2 72 (.bool true) rfl rfl (by kernel_rfl) (by kernel_rfl) (by kernel_rfl) (fun _ _ _ h => h) (Or.inl ⟨by rfl, by intro W hW; clear hW; go_simp⟩) hHeld ?_
        simp only [put_laws]
        refine take_at 3 73 undef rfl rfl (by kernel_rfl) (by kernel_rfl) (by kernel_rfl) (fun _ _ _ h => h) (Or.inr ⟨by rfl, rfl⟩) hHeld ?_
        simp only [put_laws]
        refine take_at 4 74 undef rfl rfl (by kernel_rfl) (by kernel_rfl) (by kernel_rfl) (fun _ _ _ h => h) (Or.inr ⟨by rfl, rfl⟩) hHeld ?_
        simp only [put_laws]
        refine take_at 5 75 undef rfl rfl (by kernel_rfl) (by kernel_rfl) (by kernel_rfl) (fun _ _ _ h => h) (Or.inr ⟨by rfl, rfl⟩) hHeld ?_
        simp only [put_laws]
        refine take_at 6 76 undef rfl rfl (by kernel_rfl) (by kernel_rfl) (by kernel_rfl) (fun _ _ _ h => h) (Or.inr ⟨by rfl, rfl⟩) hHeld ?_
        simp only [put_laws]
        refine take_at 7 77 undef rfl rfl (by kernel_rfl) (by kernel_rfl) (by kernel_rfl) (fun _ _ _ h => h) (Or.inr ⟨by rfl, rfl⟩) hHeld ?_
        simp only [put_laws]
        refine take_at 8 78 undef rfl rfl (by kernel_rfl) (by kernel_rfl) (by kernel_rfl) (fun _ _ _ h => h) (Or.inr ⟨by rfl, rfl⟩) hHeld ?_
        simp only [put_laws]
        refine take_at 9 79 undef rfl rfl (by kernel_rfl) (by kernel_rfl) (by kernel_rfl) (fun _ _ _ h => h) (Or.inr ⟨by rfl, rfl⟩) hHeld ?_
        simp only [put_laws]
        refine take_at 10 80 undef rfl rfl (by kernel_rfl) (by kernel_rfl) (by kernel_rfl) (fun _ _ _ h => h) (Or.inr ⟨by rfl, rfl⟩) hHeld ?_
        simp only [put_laws]
        refine take_at 11 81 undef rfl rfl (by kernel_rfl) (by kernel_rfl) (by kernel_rfl) (fun _ _ _ h => h) (Or.inr ⟨by rfl, rfl⟩) hHeld ?_
        simp only [put_laws]
        refine take_at 12 82 (.bool true) rfl rfl (by kernel_rfl) (by kernel_rfl) (by kernel_rfl) (fun _ _ _ h => h) (Or.inl ⟨by rfl, by intro W hW; clear hW; go_simp⟩) hHeld ?_
        simp only [put_laws]
        refine wpAnyH_done (by kernel_rfl) ?_ _
        refine NoPanic.normal ?_
        have hE := eq_ord O O true (sameO_self O)
        go_wp2_with (first
          | (refine wpList_load_want rfl 34 (.tmp 10) rfl (w5.heap.size + 1) rfl 34 (ordA O) (0, 0) _ _ hHeld.q Tryd.underlying34 (ordInfo _) ?_)
          | (refine wpList_load_want rfl 34 (.tmp 6) rfl (w2.heap.size + 1) rfl 34 (ordA O) (0, 0) _ _ hHeld.st.od Tryd.underlying34 (ordInfo _) ?_))
        go_ret
        exact ⟨rfl, hHeld.st.bel⟩
      · have HIns := Lib.hid hins
        have hdl : decide (O x < O y) = true := by simpa using hlt
        clear hins
        go_wp2_with (first
          | (refine wpList_load_want rfl 32 (.tmp 5) rfl (w2.heap.size) rfl 32 (matA M) (0, 0) _ _ HGr.out.gr Tryd.underlying32 (matInfo _) ?_)
          | (refine wpList_load_want rfl 34 (.tmp 6) rfl (w2.heap.size + 1) rfl 34 (ordA O) (0, 0) _ _ HGr.out.od Tryd.underlying34 (ordInfo _) ?_))
        refine (insert_val M O _ _ _ _ HOk.out HSt.out.1.ok hea heb HGr.out.tab HIns.out).mono ?_
        rintro e w5 ⟨rfl, hb5⟩
        have HG5 := Lib.hid (HGr.out.below hb5)
        have HD0 := Lib.hid (cell_keep HC0.out hb5)
        have HD1 := Lib.hid (cell_keep HC1.out hb5)
        clear hb5 HGr HC0 HC1 c0 c1
        go_wp2_with (refine wpList_let2 rfl rfl 32 34 (.tmp 9) (.tmp 67) (.tmp 10) (.tmp 68) rfl rfl rfl rfl w5 (Mm.put M x y) O rfl rfl rfl rfl rfl rfl rfl mat_info ord_info ?_; intro wz hM hO hB; have HK := Lib.hid (show KSt w w2.heap.size (w2.heap.size + 1) (w5.heap.size + 1) M O O x y wz from ⟨HG5.out.below hB, hO, cell_keep HD0.out hB, cell_keep HD1.out hB⟩); clear hM hO hB)
        refine wp_region_noPanic ?_
        refine region_start (S := KSt w w2.heap.size (w2.heap.size + 1) (w5.heap.size + 1) M O O x y) 13 rfl (by kernel_rfl) (HK.out.below (below_drew _)) (fun hHeld => ?_)
        refine take_at 0 70 (.bool true) rfl rfl (by kernel_rfl) (by kernel_rfl) (by kernel_rfl) (fun _ _ _ h => h) (Or.inl ⟨by rfl, by intro W hW; clear hW; go_simp⟩) hHeld ?_
        simp only [put_laws]
        refine take_at 1 71 (.bool false) rfl rfl (by kernel_rfl) (by kernel_rfl) (by kernel_rfl) (fun _ _ _ h => h) (Or.inl ⟨by rfl, by intro W hW; clear hW; go_simp⟩) hHeld ?_
        simp only [put_laws]
        refine take_at 2 72 (.bool false) rfl rfl (by kernel_rfl) (by kernel_rfl) (by kernel_rfl) (fun _ _ _ h => h) (Or.inl ⟨by rfl, by intro W hW; clear hW; go_simp⟩) hHeld ?_
        simp only [put_laws]
        refine take_at 3 73 (.pointer (some ⟨w.heap.size, 0, none⟩)) rfl rfl (by kernel_rfl) (by kernel_rfl) (by kernel_rfl) (fun _ _ _ h => h) (Or.inl ⟨by rfl, by intro W hW; clear hW; go_simp; try (intro h; omega)⟩) hHeld ?_
        simp only [put_laws]
        refine take_at 4 74 (.int .i64 (x : Nat)) rfl rfl (by kernel_rfl) (by kernel_rfl) (by kernel_rfl) (fun _ _ _ h => h) (Or.inl ⟨by rfl, by intro W hW; have hc := hW.c0; clear hW; go_simp⟩) hHeld ?_
        simp only [put_laws]
        refine take_at 5 75 (.pointer (some ⟨w2.heap.size + 1, x, none⟩)) rfl rfl (by kernel_rfl) (by kernel_rfl) (by kernel_rfl) (fun _ _ _ h => h) (Or.inl ⟨by rfl, by intro W hW; clear hW; go_simp; try (intro h; omega)⟩) hHeld ?_
        simp only [put_laws]
        refine take_at 6 76 (.int .i64 (O x)) rfl rfl (by kernel_rfl) (by kernel_rfl) (by kernel_rfl) (fun _ _ _ h => h) (Or.inl ⟨by rfl, by intro W hW; have hc := hW.st.od.cell x hx; clear hW; go_simp⟩) hHeld ?_
        simp only [put_laws]
        refine take_at 7 77 (.pointer (some ⟨w.heap.size, 1, none⟩)) rfl rfl (by kernel_rfl) (by kernel_rfl) (by kernel_rfl) (fun _ _ _ h => h) (Or.inl ⟨by rfl, by intro W hW; clear hW; go_simp; try (intro h; omega)⟩) hHeld ?_
        simp only [put_laws]
        refine take_at 8 78 (.int .i64 (y : Nat)) rfl rfl (by kernel_rfl) (by kernel_rfl) (by kernel_rfl) (fun _ _ _ h => h) (Or.inl ⟨by rfl, by intro W hW; have hc := hW.c1; clear hW; go_simp⟩) hHeld ?_
        simp only [put_laws]
        refine take_at 9 79 (.pointer (some ⟨w2.heap.size + 1, y, none⟩)) rfl rfl (by kernel_rfl) (by kernel_rfl) (by kernel_rfl) (fun _ _ _ h => h) (Or.inl ⟨by rfl, by intro W hW; clear hW; go_simp; try (intro h; omega)⟩) hHeld ?_
        simp only [put_laws]
        refine take_at 10 80 (.int .i64 (O y)) rfl rfl (by kernel_rfl) (by kernel_rfl) (by kernel_rfl) (fun _ _ _ h => h) (Or.inl ⟨by rfl, by intro W hW; have hc := hW.st.od.cell y hy; clear hW; go_simp⟩) hHeld ?_
        simp only [put_laws]
        refine take_at 11 81 (.bool true) rfl rfl (by kernel_rfl) (by kernel_rfl) (by kernel_rfl) (fun _ _ _ h => h) (Or.inl ⟨by rfl, by intro W hW; clear hW; go_simp⟩) hHeld ?_
        simp only [put_laws]
        refine take_at 12 82 (.bool true) rfl rfl (by kernel_rfl) (by kernel_rfl) (by kernel_rfl) (fun _ _ _ h => h) (Or.inl ⟨by rfl, by intro W hW; clear hW; go_simp⟩) hHeld ?_
        simp only [put_laws]
        refine wpAnyH_done (by kernel_rfl) ?_ _
        refine NoPanic.normal ?_
        have hE := eq_ord O O true (sameO_self O)
        go_wp2_with (first
          | (refine wpList_load_want rfl 34 (.tmp 10) rfl (w5.heap.size + 1) rfl 34 (ordA O) (0, 0) _ _ hHeld.q Tryd.underlying34 (ordInfo _) ?_)
          | (refine wpList_load_want rfl 34 (.tmp 6) rfl (w2.heap.size + 1) rfl 34 (ordA O) (0, 0) _ _ hHeld.st.od Tryd.underlying34 (ordInfo _) ?_))
        go_ret
        exact ⟨rfl, hHeld.st.bel⟩
      · have HIns := Lib.hid hins
        have hdl : decide (O x < O y) = false := by simp; omega
        have HR := Lib.hid HSt.out.1
        have HLe := Lib.hid hle
        have HF := Lib.hid hf
        have hnew := Od.moved_new (m := M) HSt.out.1 hx hy hf
        clear hins hf hle
        go_wp2_with (first
          | (refine wpList_load_want rfl 32 (.tmp 5) rfl (w2.heap.size) rfl 32 (matA M) (0, 0) _ _ HGr.out.gr Tryd.underlying32 (matInfo _) ?_)
          | (refine wpList_load_want rfl 34 (.tmp 6) rfl (w2.heap.size + 1) rfl 34 (ordA O) (0, 0) _ _ HGr.out.od Tryd.underlying34 (ordInfo _) ?_))
        refine (insert_val M O _ _ _ _ HOk.out HSt.out.1.ok hea heb HGr.out.tab HIns.out).mono ?_
        rintro e w5 ⟨rfl, hb5⟩
        have HG5 := Lib.hid (HGr.out.below hb5)
        have HD0 := Lib.hid (cell_keep HC0.out hb5)
        have HD1 := Lib.hid (cell_keep HC1.out hb5)
        clear hb5 HGr HC0 HC1 c0 c1
        go_wp2_with (refine wpList_let2 rfl rfl 32 34 (.tmp 9) (.tmp 67) (.tmp 10) (.tmp 68) rfl rfl rfl rfl w5 (Mm.put M x y) (Od.moved M O x y) rfl rfl rfl rfl rfl rfl rfl mat_info ord_info ?_; intro wz hM hO hB; have HK := Lib.hid (show KSt w w2.heap.size (w2.heap.size + 1) (w5.heap.size + 1) M O (Od.moved M O x y) x y wz from ⟨HG5.out.below hB, hO, cell_keep HD0.out hB, cell_keep HD1.out hB⟩); clear hM hO hB)
        refine wp_region_noPanic ?_
        refine region_start (S := KSt w w2.heap.size (w2.heap.size + 1) (w5.heap.size + 1) M O (Od.moved M O x y) x y) 13 rfl (by kernel_rfl) (HK.out.below (below_drew _)) (fun hHeld => ?_)
        refine take_at 0 70 (.bool true) rfl rfl (by kernel_rfl) (by kernel_rfl) (by kernel_rfl) (fun _ _ _ h => h) (Or.inl ⟨by rfl, by intro W hW; clear hW; go_simp⟩) hHeld ?_
        simp only [put_laws]
        refine take_at 1 71 (.bool false) rfl rfl (by kernel_rfl) (by kernel_rfl) (by kernel_rfl) (fun _ _ _ h => h) (Or.inl ⟨by rfl, by intro W hW; clear hW; go_simp⟩) hHeld ?_
        simp only [put_laws]
        refine take_at 2 72 (.bool false) rfl rfl (by kernel_rfl) (by kernel_rfl) (by kernel_rfl) (fun _ _ _ h => h) (Or.inl ⟨by rfl, by intro W hW; clear hW; go_simp⟩) hHeld ?_
        simp only [put_laws]
        refine take_at 3 73 (.pointer (some ⟨w.heap.size, 0, none⟩)) rfl rfl (by kernel_rfl) (by kernel_rfl) (by kernel_rfl) (fun _ _ _ h => h) (Or.inl ⟨by rfl, by intro W hW; clear hW; go_simp; try (intro h; omega)⟩) hHeld ?_
        simp only [put_laws]
        refine take_at 4 74 (.int .i64 (x : Nat)) rfl rfl (by kernel_rfl) (by kernel_rfl) (by kernel_rfl) (fun _ _ _ h => h) (Or.inl ⟨by rfl, by intro W hW; have hc := hW.c0; clear hW; go_simp⟩) hHeld ?_
        simp only [put_laws]
        refine take_at 5 75 (.pointer (some ⟨w2.heap.size + 1, x, none⟩)) rfl rfl (by kernel_rfl) (by kernel_rfl) (by kernel_rfl) (fun _ _ _ h => h) (Or.inl ⟨by rfl, by intro W hW; clear hW; go_simp; try (intro h; omega)⟩) hHeld ?_
        simp only [put_laws]
        refine take_at 6 76 (.int .i64 (O x)) rfl rfl (by kernel_rfl) (by kernel_rfl) (by kernel_rfl) (fun _ _ _ h => h) (Or.inl ⟨by rfl, by intro W hW; have hc := hW.st.od.cell x hx; clear hW; go_simp⟩) hHeld ?_
        simp only [put_laws]
        refine take_at 7 77 (.pointer (some ⟨w.heap.size, 1, none⟩)) rfl rfl (by kernel_rfl) (by kernel_rfl) (by kernel_rfl) (fun _ _ _ h => h) (Or.inl ⟨by rfl, by intro W hW; clear hW; go_simp; try (intro h; omega)⟩) hHeld ?_
        simp only [put_laws]
        refine take_at 8 78 (.int .i64 (y : Nat)) rfl rfl (by kernel_rfl) (by kernel_rfl) (by kernel_rfl) (fun _ _ _ h => h) (Or.inl ⟨by rfl, by intro W hW; have hc := hW.c1; clear hW; go_simp⟩) hHeld ?_
        simp only [put_laws]
        refine take_at 9 79 (.pointer (some ⟨w2.heap.size + 1, y, none⟩)) rfl rfl (by kernel_rfl) (by kernel_rfl) (by kernel_rfl) (fun _ _ _ h => h) (Or.inl ⟨by rfl, by intro W hW; clear hW; go_simp; try (intro h; omega)⟩) hHeld ?_
        simp only [put_laws]
        refine take_at 10 80 (.int .i64 (O y)) rfl rfl (by kernel_rfl) (by kernel_rfl) (by kernel_rfl) (fun _ _ _ h => h) (Or.inl ⟨by rfl, by intro W hW; have hc := hW.st.od.cell y hy; clear hW; go_simp⟩) hHeld ?_
        simp only [put_laws]
        refine take_at 11 81 (.bool false) rfl rfl (by kernel_rfl) (by kernel_rfl) (by kernel_rfl) (fun _ _ _ h => h) (Or.inl ⟨by rfl, by intro W hW; clear hW; go_simp⟩) hHeld ?_
        simp only [put_laws]
        refine take_at 12 82 (.bool false) rfl rfl (by kernel_rfl) (by kernel_rfl) (by kernel_rfl) (fun _ _ _ h => h) (Or.inl ⟨by rfl, by intro W hW; clear hW; go_simp⟩) hHeld ?_
        simp only [put_laws]
        refine wpAnyH_done (by kernel_rfl) ?_ _
        refine NoPanic.normal ?_
        have HK6 := Lib.hid hHeld
        clear hHeld HK
        go_wp2
        go_loopw [86] (KLoop w w2.heap.size (w2.heap.size + 1) (w5.heap.size + 1) M O (Od.moved M O x y) x y) (fun i _ => 32 - (intOf i).toNat)
        case atStart => exact ⟨0, by omega, rfl, HK6.out⟩
        case round =>
          obtain ⟨j, hj0, rfl, hK⟩ := hrel
          have HKr := Lib.hid hK
          clear hK
          by_cases hj : j < 32
          · by_cases h1 : O y ≤ O j
            · by_cases h2 : O j ≤ O x
              · obtain ⟨h3, h4⟩ := Od.moved_in (m := M) HR.out hx hy HLe.out HF.out (i := j) ⟨hj, h1, h2⟩
                go_wp2
                refine wp_region_noPanic ?_
                refine region_start (S := KSt w w2.heap.size (w2.heap.size + 1) (w5.heap.size + 1) M O (Od.moved M O x y) x y) 19 rfl (by kernel_rfl) (HKr.out.below (below_drew _)) (fun hHeld => ?_)
                refine take_at 0 89 (.int .i64 (j : Nat)) rfl rfl (by kernel_rfl) (by kernel_rfl) (by kernel_rfl) (fun _ _ _ h => h) (Or.inl ⟨by rfl, by intro W hW; clear hW; go_simp⟩) hHeld ?_
                simp only [put_laws]
                refine take_at 1 90 (.pointer (some ⟨w2.heap.size + 1, j, none⟩)) rfl rfl (by kernel_rfl) (by kernel_rfl) (by kernel_rfl) (fun _ _ _ h => h) (Or.inl ⟨by rfl, by intro W hW; clear hW; go_simp; try (intro h; omega)⟩) hHeld ?_
                simp only [put_laws]
                refine take_at 2 91 (.int .i64 (O j)) rfl rfl (by kernel_rfl) (by kernel_rfl) (by kernel_rfl) (fun _ _ _ h => h) (Or.inl ⟨by rfl, by intro W hW; have hc := hW.st.od.cell j hj; clear hW; go_simp⟩) hHeld ?_
                simp only [put_laws]
                refine take_at 3 92 (.pointer (some ⟨w.heap.size, 1, none⟩)) rfl rfl (by kernel_rfl) (by kernel_rfl) (by kernel_rfl) (fun _ _ _ h => h) (Or.inl ⟨by rfl, by intro W hW; clear hW; go_simp; try (intro h; omega)⟩) hHeld ?_
                simp only [put_laws]
                refine take_at 4 93 (.int .i64 (y : Nat)) rfl rfl (by kernel_rfl) (by kernel_rfl) (by kernel_rfl) (fun _ _ _ h => h) (Or.inl ⟨by rfl, by intro W hW; have hc := hW.c1; clear hW; go_simp⟩) hHeld ?_
                simp only [put_laws]
                refine take_at 5 94 (.pointer (some ⟨w2.heap.size + 1, y, none⟩)) rfl rfl (by kernel_rfl) (by kernel_rfl) (by kernel_rfl) (fun _ _ _ h => h) (Or.inl ⟨by rfl, by intro W hW; clear hW; go_simp; try (intro h; omega)⟩) hHeld ?_
                simp only [put_laws]
                refine take_at 6 95 (.int .i64 (O y)) rfl rfl (by kernel_rfl) (by kernel_rfl) (by kernel_rfl) (fun _ _ _ h => h) (Or.inl ⟨by rfl, by intro W hW; have hc := hW.st.od.cell y hy; clear hW; go_simp⟩) hHeld ?_
                simp only [put_laws]
                refine take_at 7 96 (.bool true) rfl rfl (by kernel_rfl) (by kernel_rfl) (by kernel_rfl) (fun _ _ _ h => h) (Or.inl ⟨by rfl, by intro W hW; clear hW; go_simp⟩) hHeld ?_
                simp only [put_laws]
                refine take_at 8 97 (.bool true) rfl rfl (by kernel_rfl) (by kernel_rfl) (by kernel_rfl) (fun _ _ _ h => h) (Or.inl ⟨by rfl, by intro W hW; clear hW; go_simp⟩) hHeld ?_
                simp only [put_laws]
                refine take_at 9 98 (.int .i64 (j : Nat)) rfl rfl (by kernel_rfl) (by kernel_rfl) (by kernel_rfl) (fun _ _ _ h => h) (Or.inl ⟨by rfl, by intro W hW; clear hW; go_simp⟩) hHeld ?_
                simp only [put_laws]
                refine take_at 10 99 (.pointer (some ⟨w2.heap.size + 1, j, none⟩)) rfl rfl (by kernel_rfl) (by kernel_rfl) (by kernel_rfl) (fun _ _ _ h => h) (Or.inl ⟨by rfl, by intro W hW; clear hW; go_simp; try (intro h; omega)⟩) hHeld ?_
                simp only [put_laws]
                refine take_at 11 100 (.int .i64 (O j)) rfl rfl (by kernel_rfl) (by kernel_rfl) (by kernel_rfl) (fun _ _ _ h => h) (Or.inl ⟨by rfl, by intro W hW; have hc := hW.st.od.cell j hj; clear hW; go_simp⟩) hHeld ?_
                simp only [put_laws]
                refine take_at 12 101 (.pointer (some ⟨w.heap.size, 0, none⟩)) rfl rfl (by kernel_rfl) (by kernel_rfl) (by kernel_rfl) (fun _ _ _ h => h) (Or.inl ⟨by rfl, by intro W hW; clear hW; go_simp; try (intro h; omega)⟩) hHeld ?_
                simp only [put_laws]
                refine take_at 13 102 (.int .i64 (x : Nat)) rfl rfl (by kernel_rfl) (by kernel_rfl) (by kernel_rfl) (fun _ _ _ h => h) (Or.inl ⟨by rfl, by intro W hW; have hc := hW.c0; clear hW; go_simp⟩) hHeld ?_
                simp only [put_laws]
                refine take_at 14 103 (.pointer (some ⟨w2.heap.size + 1, x, none⟩)) rfl rfl (by kernel_rfl) (by kernel_rfl) (by kernel_rfl) (fun _ _ _ h => h) (Or.inl ⟨by rfl, by intro W hW; clear hW; go_simp; try (intro h; omega)⟩) hHeld ?_
                simp only [put_laws]
                refine take_at 15 104 (.int .i64 (O x)) rfl rfl (by kernel_rfl) (by kernel_rfl) (by kernel_rfl) (fun _ _ _ h => h) (Or.inl ⟨by rfl, by intro W hW; have hc := hW.st.od.cell x hx; clear hW; go_simp⟩) hHeld ?_
                simp only [put_laws]
                refine take_at 16 105 (.bool true) rfl rfl (by kernel_rfl) (by kernel_rfl) (by kernel_rfl) (fun _ _ _ h => h) (Or.inl ⟨by rfl, by intro W hW; clear hW; go_simp⟩) hHeld ?_
                simp only [put_laws]
                refine take_at 17 106 (.bool true) rfl rfl (by kernel_rfl) (by kernel_rfl) (by kernel_rfl) (fun _ _ _ h => h) (Or.inl ⟨by rfl, by intro W hW; clear hW; go_simp⟩) hHeld ?_
                simp only [put_laws]
                refine take_at 18 13 (.bool true) rfl rfl (by kernel_rfl) (by kernel_rfl) (by kernel_rfl) (fun _ _ _ h => h) (Or.inl ⟨by rfl, by intro W hW; clear hW; go_simp⟩) hHeld ?_
                simp only [put_laws]
                refine wpAnyH_done (by kernel_rfl) ?_ _
                refine NoPanic.normal ?_
                have HK7 := Lib.hid hHeld
                clear hHeld HKr
                go_wp2
                refine wp_region_noPanic ?_
                refine region_start (S := KSt w w2.heap.size (w2.heap.size + 1) (w5.heap.size + 1) M O (Od.moved M O x y) x y) 33 rfl (by kernel_rfl) (HK7.out.below (below_drew _)) (fun hHeld => ?_)
                refine take_at 0 107 (.bool true) rfl rfl (by kernel_rfl) (by kernel_rfl) (by kernel_rfl) (fun _ _ _ h => h) (Or.inl ⟨by rfl, by intro W hW; clear hW; go_simp⟩) hHeld ?_
                simp only [put_laws]
                refine take_at 1 108 (.int .i64 (j : Nat)) rfl rfl (by kernel_rfl) (by kernel_rfl) (by kernel_rfl) (fun _ _ _ h => h) (Or.inl ⟨by rfl, by intro W hW; clear hW; go_simp⟩) hHeld ?_
                simp only [put_laws]
                refine take_at 2 109 (.pointer (some ⟨w5.heap.size + 1, j, none⟩)) rfl rfl (by kernel_rfl) (by kernel_rfl) (by kernel_rfl) (fun _ _ _ h => h) (Or.inl ⟨by rfl, by intro W hW; clear hW; go_simp; try (intro h; omega)⟩) hHeld ?_
                simp only [put_laws]
                refine take_at 3 110 (.int .i64 ((Od.moved M O x y) j)) rfl rfl (by kernel_rfl) (by kernel_rfl) (by kernel_rfl) (fun _ _ _ h => h) (Or.inl ⟨by rfl, by intro W hW; have hc := hW.q.cell j hj; clear hW; go_simp⟩) hHeld ?_
                simp only [put_laws]
                refine take_at 4 111 (.pointer (some ⟨w.heap.size, 1, none⟩)) rfl rfl (by kernel_rfl) (by kernel_rfl) (by kernel_rfl) (fun _ _ _ h => h) (Or.inl ⟨by rfl, by intro W hW; clear hW; go_simp; try (intro h; omega)⟩) hHeld ?_
                simp only [put_laws]
                refine take_at 5 112 (.int .i64 (y : Nat)) rfl rfl (by kernel_rfl) (by kernel_rfl) (by kernel_rfl) (fun _ _ _ h => h) (Or.inl ⟨by rfl, by intro W hW; have hc := hW.c1; clear hW; go_simp⟩) hHeld ?_
                simp only [put_laws]
                refine take_at 6 113 (.pointer (some ⟨w2.heap.size + 1, y, none⟩)) rfl rfl (by kernel_rfl) (by kernel_rfl) (by kernel_rfl) (fun _ _ _ h => h) (Or.inl ⟨by rfl, by intro W hW; clear hW; go_simp; try (intro h; omega)⟩) hHeld ?_
                simp only [put_laws]
                refine take_at 7 114 (.int .i64 (O y)) rfl rfl (by kernel_rfl) (by kernel_rfl) (by kernel_rfl) (fun _ _ _ h => h) (Or.inl ⟨by rfl, by intro W hW; have hc := hW.st.od.cell y hy; clear hW; go_simp⟩) hHeld ?_
                simp only [put_laws]
                refine take_at 8 115 (.bool true) rfl rfl (by kernel_rfl) (by kernel_rfl) (by kernel_rfl) (fun _ _ _ h => h) (Or.inl ⟨by rfl, by intro W hW; clear hW; go_simp⟩) hHeld ?_
                simp only [put_laws]
                refine take_at 9 116 (.bool true) rfl rfl (by kernel_rfl) (by kernel_rfl) (by kernel_rfl) (fun _ _ _ h => h) (Or.inl ⟨by rfl, by intro W hW; clear hW; go_simp⟩) hHeld ?_
                simp only [put_laws]
                refine take_at 10 117 (.int .i64 (j : Nat)) rfl rfl (by kernel_rfl) (by kernel_rfl) (by kernel_rfl) (fun _ _ _ h => h) (Or.inl ⟨by rfl, by intro W hW; clear hW; go_simp⟩) hHeld ?_
                simp only [put_laws]
                refine take_at 11 118 (.pointer (some ⟨w5.heap.size + 1, j, none⟩)) rfl rfl (by kernel_rfl) (by kernel_rfl) (by kernel_rfl) (fun _ _ _ h => h) (Or.inl ⟨by rfl, by intro W hW; clear hW; go_simp; try (intro h; omega)⟩) hHeld ?_
                simp only [put_laws]
                refine take_at 12 119 (.int .i64 ((Od.moved M O x y) j)) rfl rfl (by kernel_rfl) (by kernel_rfl) (by kernel_rfl) (fun _ _ _ h => h) (Or.inl ⟨by rfl, by intro W hW; have hc := hW.q.cell j hj; clear hW; go_simp⟩) hHeld ?_
                simp only [put_laws]
                refine take_at 13 120 (.pointer (some ⟨w.heap.size, 0, none⟩)) rfl rfl (by kernel_rfl) (by kernel_rfl) (by kernel_rfl) (fun _ _ _ h => h) (Or.inl ⟨by rfl, by intro W hW; clear hW; go_simp; try (intro h; omega)⟩) hHeld ?_
                simp only [put_laws]
                refine take_at 14 121 (.int .i64 (x : Nat)) rfl rfl (by kernel_rfl) (by kernel_rfl) (by kernel_rfl) (fun _ _ _ h => h) (Or.inl ⟨by rfl, by intro W hW; have hc := hW.c0; clear hW; go_simp⟩) hHeld ?_
                simp only [put_laws]
                refine take_at 15 122 (.pointer (some ⟨w2.heap.size + 1, x, none⟩)) rfl rfl (by kernel_rfl) (by kernel_rfl) (by kernel_rfl) (fun _ _ _ h => h) (Or.inl ⟨by rfl, by intro W hW; clear hW; go_simp; try (intro h; omega)⟩) hHeld ?_
                simp only [put_laws]
                refine take_at 16 123 (.int .i64 (O x)) rfl rfl (by kernel_rfl) (by kernel_rfl) (by kernel_rfl) (fun _ _ _ h => h) (Or.inl ⟨by rfl, by intro W hW; have hc := hW.st.od.cell x hx; clear hW; go_simp⟩) hHeld ?_
                simp only [put_laws]
                refine take_at 17 124 (.bool true) rfl rfl (by kernel_rfl) (by kernel_rfl) (by kernel_rfl) (fun _ _ _ h => h) (Or.inl ⟨by rfl, by intro W hW; clear hW; go_simp⟩) hHeld ?_
                simp only [put_laws]
                refine take_at 18 125 (.bool true) rfl rfl (by kernel_rfl) (by kernel_rfl) (by kernel_rfl) (fun _ _ _ h => h) (Or.inl ⟨by rfl, by intro W hW; clear hW; go_simp⟩) hHeld ?_
                simp only [put_laws]
                refine take_at 19 126 (.bool false) rfl rfl (by kernel_rfl) (by kernel_rfl) (by kernel_rfl) (fun _ _ _ h => h) (Or.inl ⟨by rfl, by intro W hW; clear hW; go_simp⟩) hHeld ?_
                simp only [put_laws]
                refine take_at 20 127 (.bool false) rfl rfl (by kernel_rfl) (by kernel_rfl) (by kernel_rfl) (fun _ _ _ h => h) (Or.inl ⟨by rfl, by intro W hW; clear hW; go_simp⟩) hHeld ?_
                simp only [put_laws]
                refine take_at 21 128 (.bool true) rfl rfl (by kernel_rfl) (by kernel_rfl) (by kernel_rfl) (fun _ _ _ h => h) (Or.inl ⟨by rfl, by intro W hW; clear hW; go_simp⟩) hHeld ?_
                simp only [put_laws]
                refine take_at 22 129 (.bool false) rfl rfl (by kernel_rfl) (by kernel_rfl) (by kernel_rfl) (fun _ _ _ h => h) (Or.inl ⟨by rfl, by intro W hW; clear hW; go_simp⟩) hHeld ?_
                simp only [put_laws]
                refine take_at 23 130 (.bool false) rfl rfl (by kernel_rfl) (by kernel_rfl) (by kernel_rfl) (fun _ _ _ h => h) (Or.inl ⟨by rfl, by intro W hW; clear hW; go_simp⟩) hHeld ?_
                simp only [put_laws]
                refine take_at 24 131 undef rfl rfl (by kernel_rfl) (by kernel_rfl) (by kernel_rfl) (fun _ _ _ h => h) (Or.inr ⟨by rfl, rfl⟩) hHeld ?_
                simp only [put_laws]
                refine take_at 25 132 undef rfl rfl (by kernel_rfl) (by kernel_rfl) (by kernel_rfl) (fun _ _ _ h => h) (Or.inr ⟨by rfl, rfl⟩) hHeld ?_
                simp only [put_laws]
                refine take_at 26 133 undef rfl rfl (by kernel_rfl) (by kernel_rfl) (by kernel_rfl) (fun _ _ _ h => h) (Or.inr ⟨by rfl, rfl⟩) hHeld ?_
                simp only [put_laws]
                refine take_at 27 134 undef rfl rfl (by kernel_rfl) (by kernel_rfl) (by kernel_rfl) (fun _ _ _ h => h) (Or.inr ⟨by rfl, rfl⟩) hHeld ?_
                simp only [put_laws]
                refine take_at 28 135 undef rfl rfl (by kernel_rfl) (by kernel_rfl) (by kernel_rfl) (fun _ _ _ h => h) (Or.inr ⟨by rfl, rfl⟩) hHeld ?_
                simp only [put_laws]
                refine take_at 29 136 undef rfl rfl (by kernel_rfl) (by kernel_rfl) (by kernel_rfl) (fun _ _ _ h => h) (Or.inr ⟨by rfl, rfl⟩) hHeld ?_
                simp only [put_laws]
                refine take_at 30 137 undef rfl rfl (by kernel_rfl) (by kernel_rfl) (by kernel_rfl) (fun _ _ _ h => h) (Or.inr ⟨by rfl, rfl⟩) hHeld ?_
                simp only [put_laws]
                refine take_at 31 138 (.bool false) rfl rfl (by kernel_rfl) (by kernel_rfl) (by kernel_rfl) (fun _ _ _ h => h) (Or.inl ⟨by rfl, by intro W hW; clear hW; go_simp⟩) hHeld ?_
                simp only [put_laws]
                refine take_at 32 139 (.bool false) rfl rfl (by kernel_rfl) (by kernel_rfl) (by kernel_rfl) (fun _ _ _ h => h) (Or.inl ⟨by rfl, by intro W hW; clear hW; go_simp⟩) hHeld ?_
                simp only [put_laws]
                refine wpAnyH_done (by kernel_rfl) ?_ _
                refine NoPanic.normal ?_
                have HK8 := Lib.hid hHeld
                clear hHeld HK7
                go_wp2
                exact ⟨⟨j + 1, by omega, by go_num, HK8.out⟩, by simp [intOf]; omega⟩
              · have h5 := Od.moved_out (m := M) HR.out hx hy HLe.out (i := j) fun h => h2 h.2.2
                have h2d : decide (O j ≤ O x) = false := by simpa using h2
                have h3 : O y ≤ Od.moved M O x y j := by rw [h5]; exact h1
                have h4d : decide (Od.moved M O x y j ≤ O x) = false := by rw [h5]; exact h2d
                have h6 : (Od.moved M O x y j == O j) = true := by rw [h5]; simp
                have h7 : (Od.moved M O x y j != O j) = false := by rw [h5]; simp
                clear h5 h2
                go_wp2
                refine wp_region_noPanic ?_
                refine region_start (S := KSt w w2.heap.size (w2.heap.size + 1) (w5.heap.size + 1) M O (Od.moved M O x y) x y) 19 rfl (by kernel_rfl) (HKr.out.below (below_drew _)) (fun hHeld => ?_)
                refine take_at 0 89 (.int .i64 (j : Nat)) rfl rfl (by kernel_rfl) (by kernel_rfl) (by kernel_rfl) (fun _ _ _ h => h) (Or.inl ⟨by rfl, by intro W hW; clear hW; go_simp⟩) hHeld ?_
                simp only [put_laws]
                refine take_at 1 90 (.pointer (some ⟨w2.heap.size + 1, j, none⟩)) rfl rfl (by kernel_rfl) (by kernel_rfl) (by kernel_rfl) (fun _ _ _ h => h) (Or.inl ⟨by rfl, by intro W hW; clear hW; go_simp; try (intro h; omega)⟩) hHeld ?_
                simp only [put_laws]
                refine take_at 2 91 (.int .i64 (O j)) rfl rfl (by kernel_rfl) (by kernel_rfl) (by kernel_rfl) (fun _ _ _ h => h) (Or.inl ⟨by rfl, by intro W hW; have hc := hW.st.od.cell j hj; clear hW; go_simp⟩) hHeld ?_
                simp only [put_laws]
                refine take_at 3 92 (.pointer (some ⟨w.heap.size, 1, none⟩)) rfl rfl (by kernel_rfl) (by kernel_rfl) (by kernel_rfl) (fun _ _ _ h => h) (Or.inl ⟨by rfl, by intro W hW; clear hW; go_simp; try (intro h; omega)⟩) hHeld ?_
                simp only [put_laws]
                refine take_at 4 93 (.int .i64 (y : Nat)) rfl rfl (by kernel_rfl) (by kernel_rfl) (by kernel_rfl) (fun _ _ _ h => h) (Or.inl ⟨by rfl, by intro W hW; have hc := hW.c1; clear hW; go_simp⟩) hHeld ?_
                simp only [put_laws]
                refine take_at 5 94 (.pointer (some ⟨w2.heap.size + 1, y, none⟩)) rfl rfl (by kernel_rfl) (by kernel_rfl) (by kernel_rfl) (fun _ _ _ h => h) (Or.inl ⟨by rfl, by intro W hW; clear hW; go_simp; try (intro h; omega)⟩) hHeld ?_
                simp only [put_laws]
                refine take_at 6 95 (.int .i64 (O y)) rfl rfl (by kernel_rfl) (by kernel_rfl) (by kernel_rfl) (fun _ _ _ h => h) (Or.inl ⟨by rfl, by intro W hW; have hc := hW.st.od.cell y hy; clear hW; go_simp⟩) hHeld ?_
                simp only [put_laws]
                refine take_at 7 96 (.bool true) rfl rfl (by kernel_rfl) (by kernel_rfl) (by kernel_rfl) (fun _ _ _ h => h) (Or.inl ⟨by rfl, by intro W hW; clear hW; go_simp⟩) hHeld ?_
                simp only [put_laws]
                refine take_at 8 97 (.bool true) rfl rfl (by kernel_rfl) (by kernel_rfl) (by kernel_rfl) (fun _ _ _ h => h) (Or.inl ⟨by rfl, by intro W hW; clear hW; go_simp⟩) hHeld ?_
                simp only [put_laws]
                refine take_at 9 98 (.int .i64 (j : Nat)) rfl rfl (by kernel_rfl) (by kernel_rfl) (by kernel_rfl) (fun _ _ _ h => h) (Or.inl ⟨by rfl, by intro W hW; clear hW; go_simp⟩) hHeld ?_
                simp only [put_laws]
                refine take_at 10 99 (.pointer (some ⟨w2.heap.size + 1, j, none⟩)) rfl rfl (by kernel_rfl) (by kernel_rfl) (by kernel_rfl) (fun _ _ _ h => h) (Or.inl ⟨by rfl, by intro W hW; clear hW; go_simp; try (intro h; omega)⟩) hHeld ?_
                simp only [put_laws]
                refine take_at 11 100 (.int .i64 (O j)) rfl rfl (by kernel_rfl) (by kernel_rfl) (by kernel_rfl) (fun _ _ _ h => h) (Or.inl ⟨by rfl, by intro W hW; have hc := hW.st.od.cell j hj; clear hW; go_simp⟩) hHeld ?_
                simp only [put_laws]
                refine take_at 12 101 (.pointer (some ⟨w.heap.size, 0, none⟩)) rfl rfl (by kernel_rfl) (by kernel_rfl) (by kernel_rfl) (fun _ _ _ h => h) (Or.inl ⟨by rfl, by intro W hW; clear hW; go_simp; try (intro h; omega)⟩) hHeld ?_
                simp only [put_laws]
                refine take_at 13 102 (.int .i64 (x : Nat)) rfl rfl (by kernel_rfl) (by kernel_rfl) (by kernel_rfl) (fun _ _ _ h => h) (Or.inl ⟨by rfl, by intro W hW; have hc := hW.c0; clear hW; go_simp⟩) hHeld ?_
                simp only [put_laws]
                refine take_at 14 103 (.pointer (some ⟨w2.heap.size + 1, x, none⟩)) rfl rfl (by kernel_rfl) (by kernel_rfl) (by kernel_rfl) (fun _ _ _ h => h) (Or.inl ⟨by rfl, by intro W hW; clear hW; go_simp; try (intro h; omega)⟩) hHeld ?_
                simp only [put_laws]
                refine take_at 15 104 (.int .i64 (O x)) rfl rfl (by kernel_rfl) (by kernel_rfl) (by kernel_rfl) (fun _ _ _ h => h) (Or.inl ⟨by rfl, by intro W hW; have hc := hW.st.od.cell x hx; clear hW; go_simp⟩) hHeld ?_
                simp only [put_laws]
                refine take_at 16 105 (.bool false) rfl rfl (by kernel_rfl) (by kernel_rfl) (by kernel_rfl) (fun _ _ _ h => h) (Or.inl ⟨by rfl, by intro W hW; clear hW; go_simp⟩) hHeld ?_
                simp only [put_laws]
                refine take_at 17 106 (.bool false) rfl rfl (by kernel_rfl) (by kernel_rfl) (by kernel_rfl) (fun _ _ _ h => h) (Or.inl ⟨by rfl, by intro W hW; clear hW; go_simp⟩) hHeld ?_
                simp only [put_laws]
                refine take_at 18 13 (.bool false) rfl rfl (by kernel_rfl) (by kernel_rfl) (by kernel_rfl) (fun _ _ _ h => h) (Or.inl ⟨by rfl, by intro W hW; clear hW; go_simp⟩) hHeld ?_
                simp only [put_laws]
                refine wpAnyH_done (by kernel_rfl) ?_ _
                refine NoPanic.normal ?_
                have HK7 := Lib.hid hHeld
                clear hHeld HKr
                go_wp2
                refine wp_region_noPanic ?_
                refine region_start (S := KSt w w2.heap.size (w2.heap.size + 1) (w5.heap.size + 1) M O (Od.moved M O x y) x y) 33 rfl (by kernel_rfl) (HK7.out.below (below_drew _)) (fun hHeld => ?_)
                refine take_at 0 107 (.bool false) rfl rfl (by kernel_rfl) (by kernel_rfl) (by kernel_rfl) (fun _ _ _ h => h) (Or.inl ⟨by rfl, by intro W hW; clear hW; go_simp⟩) hHeld ?_
                simp only [put_laws]
                refine take_at 1 108 (.int .i64 (j : Nat)) rfl rfl (by kernel_rfl) (by kernel_rfl) (by kernel_rfl) (fun _ _ _ h => h) (Or.inl ⟨by rfl, by intro W hW; clear hW; go_simp⟩) hHeld ?_
                simp only [put_laws]
                refine take_at 2 109 (.pointer (some ⟨w5.heap.size + 1, j, none⟩)) rfl rfl (by kernel_rfl) (by kernel_rfl) (by kernel_rfl) (fun _ _ _ h => h) (Or.inl ⟨by rfl, by intro W hW; clear hW; go_simp; try (intro h; omega)⟩) hHeld ?_
                simp only [put_laws]
                refine take_at 3 110 (.int .i64 ((Od.moved M O x y) j)) rfl rfl (by kernel_rfl) (by kernel_rfl) (by kernel_rfl) (fun _ _ _ h => h) (Or.inl ⟨by rfl, by intro W hW; have hc := hW.q.cell j hj; clear hW; go_simp⟩) hHeld ?_
                simp only [put_laws]
                refine take_at 4 111 (.pointer (some ⟨w.heap.size, 1, none⟩)) rfl rfl (by kernel_rfl) (by kernel_rfl) (by kernel_rfl) (fun _ _ _ h => h) (Or.inl ⟨by rfl, by intro W hW; clear hW; go_simp; try (intro h; omega)⟩) hHeld ?_
                simp only [put_laws]
                refine take_at 5 112 (.int .i64 (y : Nat)) rfl rfl (by kernel_rfl) (by kernel_rfl) (by kernel_rfl) (fun _ _ _ h => h) (Or.inl ⟨by rfl, by intro W hW; have hc := hW.c1; clear hW; go_simp⟩) hHeld ?_
                simp only [put_laws]
                refine take_at 6 113 (.pointer (some ⟨w2.heap.size + 1, y, none⟩)) rfl rfl (by kernel_rfl) (by kernel_rfl) (by kernel_rfl) (fun _ _ _ h => h) (Or.inl ⟨by rfl, by intro W hW; clear hW; go_simp; try (intro h; omega)⟩) hHeld ?_
                simp only [put_laws]
                refine take_at 7 114 (.int .i64 (O y)) rfl rfl (by kernel_rfl) (by kernel_rfl) (by kernel_rfl) (fun _ _ _ h => h) (Or.inl ⟨by rfl, by intro W hW; have hc := hW.st.od.cell y hy; clear hW; go_simp⟩) hHeld ?_
                simp only [put_laws]
                refine take_at 8 115 (.bool true) rfl rfl (by kernel_rfl) (by kernel_rfl) (by kernel_rfl) (fun _ _ _ h => h) (Or.inl ⟨by rfl, by intro W hW; clear hW; go_simp⟩) hHeld ?_
                simp only [put_laws]
                refine take_at 9 116 (.bool true) rfl rfl (by kernel_rfl) (by kernel_rfl) (by kernel_rfl) (fun _ _ _ h => h) (Or.inl ⟨by rfl, by intro W hW; clear hW; go_simp⟩) hHeld ?_
                simp only [put_laws]
                refine take_at 10 117 (.int .i64 (j : Nat)) rfl rfl (by kernel_rfl) (by kernel_rfl) (by kernel_rfl) (fun _ _ _ h => h) (Or.inl ⟨by rfl, by intro W hW; clear hW; go_simp⟩) hHeld ?_
                simp only [put_laws]
                refine take_at 11 118 (.pointer (some ⟨w5.heap.size + 1, j, none⟩)) rfl rfl (by kernel_rfl) (by kernel_rfl) (by kernel_rfl) (fun _ _ _ h => h) (Or.inl ⟨by rfl, by intro W hW; clear hW; go_simp; try (intro h; omega)⟩) hHeld ?_
                simp only [put_laws]
                refine take_at 12 119 (.int .i64 ((Od.moved M O x y) j)) rfl rfl (by kernel_rfl) (by kernel_rfl) (by kernel_rfl) (fun _ _ _ h => h) (Or.inl ⟨by rfl, by intro W hW; have hc := hW.q.cell j hj; clear hW; go_simp⟩) hHeld ?_
                simp only [put_laws]
                refine take_at 13 120 (.pointer (some ⟨w.heap.size, 0, none⟩)) rfl rfl (by kernel_rfl) (by kernel_rfl) (by kernel_rfl) (fun _ _ _ h => h) (Or.inl ⟨by rfl, by intro W hW; clear hW; go_simp; try (intro h; omega)⟩) hHeld ?_
                simp only [put_laws]
                refine take_at 14 121 (.int .i64 (x : Nat)) rfl rfl (by kernel_rfl) (by kernel_rfl) (by kernel_rfl) (fun _ _ _ h => h) (Or.inl ⟨by rfl, by intro W hW; have hc := hW.c0; clear hW; go_simp⟩) hHeld ?_
                simp only [put_laws]
                refine take_at 15 122 (.pointer (some ⟨w2.heap.size + 1, x, none⟩)) rfl rfl (by kernel_rfl) (by kernel_rfl) (by kernel_rfl) (fun _ _ _ h => h) (Or.inl ⟨by rfl, by intro W hW; clear hW; go_simp; try (intro h; omega)⟩) hHeld ?_
                simp only [put_laws]
                refine take_at 16 123 (.int .i64 (O x)) rfl rfl (by kernel_rfl) (by kernel_rfl) (by kernel_rfl) (fun _ _ _ h => h) (Or.inl ⟨by rfl, by intro W hW; have hc := hW.st.od.cell x hx; clear hW; go_simp⟩) hHeld ?_
                simp only [put_laws]
                refine take_at 17 124 (.bool false) rfl rfl (by kernel_rfl) (by kernel_rfl) (by kernel_rfl) (fun _ _ _ h => h) (Or.inl ⟨by rfl, by intro W hW; clear hW; go_simp⟩) hHeld ?_
                simp only [put_laws]
                refine take_at 18 125 (.bool false) rfl rfl (by kernel_rfl) (by kernel_rfl) (by kernel_rfl) (fun _ _ _ h => h) (Or.inl ⟨by rfl, by intro W hW; clear hW; go_simp⟩) hHeld ?_
                simp only [put_laws]
                refine take_at 19 126 (.bool false) rfl rfl (by kernel_rfl) (by kernel_rfl) (by kernel_rfl) (fun _ _ _ h => h) (Or.inl ⟨by rfl, by intro W hW; clear hW; go_simp⟩) hHeld ?_
                simp only [put_laws]
                refine take_at 20 127 (.bool false) rfl rfl (by kernel_rfl) (by kernel_rfl) (by kernel_rfl) (fun _ _ _ h => h) (Or.inl ⟨by rfl, by intro W hW; clear hW; go_simp⟩) hHeld ?_
                simp only [put_laws]
                refine take_at 21 128 (.bool false) rfl rfl (by kernel_rfl) (by kernel_rfl) (by kernel_rfl) (fun _ _ _ h => h) (Or.inl ⟨by rfl, by intro W hW; clear hW; go_simp⟩) hHeld ?_
                simp only [put_laws]
                refine take_at 22 129 (.bool true) rfl rfl (by kernel_rfl) (by kernel_rfl) (by kernel_rfl) (fun _ _ _ h => h) (Or.inl ⟨by rfl, by intro W hW; clear hW; go_simp⟩) hHeld ?_
                simp only [put_laws]
                refine take_at 23 130 (.bool true) rfl rfl (by kernel_rfl) (by kernel_rfl) (by kernel_rfl) (fun _ _ _ h => h) (Or.inl ⟨by rfl, by intro W hW; clear hW; go_simp⟩) hHeld ?_
                simp only [put_laws]
                refine take_at 24 131 (.int .i64 (j : Nat)) rfl rfl (by kernel_rfl) (by kernel_rfl) (by kernel_rfl) (fun _ _ _ h => h) (Or.inl ⟨by rfl, by intro W hW; clear hW; go_simp⟩) hHeld ?_
                simp only [put_laws]
                refine take_at 25 132 (.pointer (some ⟨w5.heap.size + 1, j, none⟩)) rfl rfl (by kernel_rfl) (by kernel_rfl) (by kernel_rfl) (fun _ _ _ h => h) (Or.inl ⟨by rfl, by intro W hW; clear hW; go_simp; try (intro h; omega)⟩) hHeld ?_
                simp only [put_laws]
                refine take_at 26 133 (.int .i64 ((Od.moved M O x y) j)) rfl rfl (by kernel_rfl) (by kernel_rfl) (by kernel_rfl) (fun _ _ _ h => h) (Or.inl ⟨by rfl, by intro W hW; have hc := hW.q.cell j hj; clear hW; go_simp⟩) hHeld ?_
                simp only [put_laws]
                refine take_at 27 134 (.int .i64 (j : Nat)) rfl rfl (by kernel_rfl) (by kernel_rfl) (by kernel_rfl) (fun _ _ _ h => h) (Or.inl ⟨by rfl, by intro W hW; clear hW; go_simp⟩) hHeld ?_
                simp only [put_laws]
                refine take_at 28 135 (.pointer (some ⟨w2.heap.size + 1, j, none⟩)) rfl rfl (by kernel_rfl) (by kernel_rfl) (by kernel_rfl) (fun _ _ _ h => h) (Or.inl ⟨by rfl, by intro W hW; clear hW; go_simp; try (intro h; omega)⟩) hHeld ?_
                simp only [put_laws]
                refine take_at 29 136 (.int .i64 (O j)) rfl rfl (by kernel_rfl) (by kernel_rfl) (by kernel_rfl) (fun _ _ _ h => h) (Or.inl ⟨by rfl, by intro W hW; have hc := hW.st.od.cell j hj; clear hW; go_simp⟩) hHeld ?_
                simp only [put_laws]
                refine take_at 30 137 (.bool false) rfl rfl (by kernel_rfl) (by kernel_rfl) (by kernel_rfl) (fun _ _ _ h => h) (Or.inl ⟨by rfl, by intro W hW; clear hW; go_simp⟩) hHeld ?_
                simp only [put_laws]
                refine take_at 31 138 (.bool false) rfl rfl (by kernel_rfl) (by kernel_rfl) (by kernel_rfl) (fun _ _ _ h => h) (Or.inl ⟨by rfl, by intro W hW; clear hW; go_simp⟩) hHeld ?_
                simp only [put_laws]
                refine take_at 32 139 (.bool false) rfl rfl (by kernel_rfl) (by kernel_rfl) (by kernel_rfl) (fun _ _ _ h => h) (Or.inl ⟨by rfl, by intro W hW; clear hW; go_simp⟩) hHeld ?_
                simp only [put_laws]
                refine wpAnyH_done (by kernel_rfl) ?_ _
                refine NoPanic.normal ?_
                have HK8 := Lib.hid hHeld
                clear hHeld HK7
                go_wp2
                exact ⟨⟨j + 1, by omega, by go_num, HK8.out⟩, by simp [intOf]; omega⟩
            · have h5 := Od.moved_out (m := M) HR.out hx hy HLe.out (i := j) fun h => h1 h.2.1
              have h1d : decide (O y ≤ O j) = false := by simpa using h1
              have h3d : decide (O y ≤ Od.moved M O x y j) = false := by rw [h5]; exact h1d
              have h6 : (Od.moved M O x y j == O j) = true := by rw [h5]; simp
              have h7 : (Od.moved M O x y j != O j) = false := by rw [h5]; simp
              clear h5 h1
              go_wp2
              refine wp_region_noPanic ?_
              refine region_start (S := KSt w w2.heap.size (w2.heap.size + 1) (w5.heap.size + 1) M O (Od.moved M O x y) x y) 19 rfl (by kernel_rfl) (HKr.out.below (below_drew _)) (fun hHeld => ?_)
              refine take_at 0 89 (.int .i64 (j : Nat)) rfl rfl (by kernel_rfl) (by kernel_rfl) (by kernel_rfl) (fun _ _ _ h => h) (Or.inl ⟨by rfl, by intro W hW; clear hW; go_simp⟩) hHeld ?_
              simp only [put_laws]
              refine take_at 1 90 (.pointer (some ⟨w2.heap.size + 1, j, none⟩)) rfl rfl (by kernel_rfl) (by kernel_rfl) (by kernel_rfl) (fun _ _ _ h => h) (Or.inl ⟨by rfl, by intro W hW; clear hW; go_simp; try (intro h; omega)⟩) hHeld ?_
              simp only [put_laws]
              refine take_at 2 91 (.int .i64 (O j)) rfl rfl (by kernel_rfl) (by kernel_rfl) (by kernel_rfl) (fun _ _ _ h => h) (Or.inl ⟨by rfl, by intro W hW; have hc := hW.st.od.cell j hj; clear hW; go_simp⟩) hHeld ?_
              simp only [put_laws]
              refine take_at 3 92 (.pointer (some ⟨w.heap.size, 1, none⟩)) rfl rfl (by kernel_rfl) (by kernel_rfl) (by kernel_rfl) (fun _ _ _ h => h) (Or.inl ⟨by rfl, by intro W hW; clear hW; go_simp; try (intro h; omega)⟩) hHeld ?_
              simp only [put_laws]
              refine take_at 4 93 (.int .i64 (y : Nat)) rfl rfl (by kernel_rfl) (by kernel_rfl) (by kernel_rfl) (fun _ _ _ h => h) (Or.inl ⟨by rfl, by intro W hW; have hc := hW.c1; clear hW; go_simp⟩) hHeld ?_
              simp only [put_laws]
              refine take_at 5 94 (.pointer (some ⟨w2.heap.size + 1, y, none⟩)) rfl rfl (by kernel_rfl) (by kernel_rfl) (by kernel_rfl) (fun _ _ _ h => h) (Or.inl ⟨by rfl, by intro W hW; clear hW; go_simp; try (intro h; omega)⟩) hHeld ?_
              simp only [put_laws]
              refine take_at 6 95 (.int .i64 (O y)) rfl rfl (by kernel_rfl) (by kernel_rfl) (by kernel_rfl) (fun _ _ _ h => h) (Or.inl ⟨by rfl, by intro W hW; have hc := hW.st.od.cell y hy; clear hW; go_simp⟩) hHeld ?_
              simp only [put_laws]
              refine take_at 7 96 (.bool false) rfl rfl (by kernel_rfl) (by kernel_rfl) (by kernel_rfl) (fun _ _ _ h => h) (Or.inl ⟨by rfl, by intro W hW; clear hW; go_simp⟩) hHeld ?_
              simp only [put_laws]
              refine take_at 8 97 (.bool false) rfl rfl (by kernel_rfl) (by kernel_rfl) (by kernel_rfl) (fun _ _ _ h => h) (Or.inl ⟨by rfl, by intro W hW; clear hW; go_simp⟩) hHeld ?_
              simp only [put_laws]
              refine take_at 9 98 undef rfl rfl (by kernel_rfl) (by kernel_rfl) (by kernel_rfl) (fun _ _ _ h => h) (Or.inr ⟨by rfl, rfl⟩) hHeld ?_
              simp only [put_laws]
              refine take_at 10 99 undef rfl rfl (by kernel_rfl) (by kernel_rfl) (by kernel_rfl) (fun _ _ _ h => h) (Or.inr ⟨by rfl, rfl⟩) hHeld ?_
              simp only [put_laws]
              refine take_at 11 100 undef rfl rfl (by kernel_rfl) (by kernel_rfl) (by kernel_rfl) (fun _ _ _ h => h) (Or.inr ⟨by rfl, rfl⟩) hHeld ?_
              simp only [put_laws]
              refine take_at 12 101 undef rfl rfl (by kernel_rfl) (by kernel_rfl) (by kernel_rfl) (fun _ _ _ h => h) (Or.inr ⟨by rfl, rfl⟩) hHeld ?_
              simp only [put_laws]
              refine take_at 13 102 undef rfl rfl (by kernel_rfl) (by kernel_rfl) (by kernel_rfl) (fun _ _ _ h => h) (Or.inr ⟨by rfl, rfl⟩) hHeld ?_
              simp only [put_laws]
              refine take_at 14 103 undef rfl rfl (by kernel_rfl) (by kernel_rfl) (by kernel_rfl) (fun _ _ _ h => h) (Or.inr ⟨by rfl, rfl⟩) hHeld ?_
              simp only [put_laws]
              refine take_at 15 104 undef rfl rfl (by kernel_rfl) (by kernel_rfl) (by kernel_rfl) (fun _ _ _ h => h) (Or.inr ⟨by rfl, rfl⟩) hHeld ?_
              simp only [put_laws]
              refine take_at 16 105 undef rfl rfl (by kernel_rfl) (by kernel_rfl) (by kernel_rfl) (fun _ _ _ h => h) (Or.inr ⟨by rfl, rfl⟩) hHeld ?_
              simp only [put_laws]
              refine take_at 17 106 (.bool false) rfl rfl (by kernel_rfl) (by kernel_rfl) (by kernel_rfl) (fun _ _ _ h => h) (Or.inl ⟨by rfl, by intro W hW; clear hW; go_simp⟩) hHeld ?_
              simp only [put_laws]
              refine take_at 18 13 (.bool false) rfl rfl (by kernel_rfl) (by kernel_rfl) (by kernel_rfl) (fun _ _ _ h => h) (Or.inl ⟨by rfl, by intro W hW; clear hW; go_simp⟩) hHeld ?_
              simp only [put_laws]
              refine wpAnyH_done (by kernel_rfl) ?_ _
              refine NoPanic.normal ?_
              have HK7 := Lib.hid hHeld
              clear hHeld HKr
              go_wp2
              refine wp_region_noPanic ?_
              refine region_start (S := KSt w w2.heap.size (w2.heap.size + 1) (w5.heap.size + 1) M O (Od.moved M O x y) x y) 33 rfl (by kernel_rfl) (HK7.out.below (below_drew _)) (fun hHeld => ?_)
              refine take_at 0 107 (.bool false) rfl rfl (by kernel_rfl) (by kernel_rfl) (by kernel_rfl) (fun _ _ _ h => h) (Or.inl ⟨by rfl, by intro W hW; clear hW; go_simp⟩) hHeld ?_
              simp only [put_laws]
              refine take_at 1 108 (.int .i64 (j : Nat)) rfl rfl (by kernel_rfl) (by kernel_rfl) (by kernel_rfl) (fun _ _ _ h => h) (Or.inl ⟨by rfl, by intro W hW; clear hW; go_simp⟩) hHeld ?_
              simp only [put_laws]
              refine take_at 2 109 (.pointer (some ⟨w5.heap.size + 1, j, none⟩)) rfl rfl (by kernel_rfl) (by kernel_rfl) (by kernel_rfl) (fun _ _ _ h => h) (Or.inl ⟨by rfl, by intro W hW; clear hW; go_simp; try (intro h; omega)⟩) hHeld ?_
              simp only [put_laws]
              refine take_at 3 110 (.int .i64 ((Od.moved M O x y) j)) rfl rfl (by kernel_rfl) (by kernel_rfl) (by kernel_rfl) (fun _ _ _ h => h) (Or.inl ⟨by rfl, by intro W hW; have hc := hW.q.cell j hj; clear hW; go_simp⟩) hHeld ?_
              simp only [put_laws]
              refine take_at 4 111 (.pointer (some ⟨w.heap.size, 1, none⟩)) rfl rfl (by kernel_rfl) (by kernel_rfl) (by kernel_rfl) (fun _ _ _ h => h) (Or.inl ⟨by rfl, by intro W hW; clear hW; go_simp; try (intro h; omega)⟩) hHeld ?_
              simp only [put_laws]
              refine take_at 5 112 (.int .i64 (y : Nat)) rfl rfl (by kernel_rfl) (by kernel_rfl) (by kernel_rfl) (fun _ _ _ h => h) (Or.inl ⟨by rfl, by intro W hW; have hc := hW.c1; clear hW; go_simp⟩) hHeld ?_
              simp only [put_laws]
              refine take_at 6 113 (.pointer (some ⟨w2.heap.size + 1, y, none⟩)) rfl rfl (by kernel_rfl) (by kernel_rfl) (by kernel_rfl) (fun _ _ _ h => h) (Or.inl ⟨by rfl, by intro W hW; clear hW; go_simp; try (intro h; omega)⟩) hHeld ?_
              simp only [put_laws]
              refine take_at 7 114 (.int .i64 (O y)) rfl rfl (by kernel_rfl) (by kernel_rfl) (by kernel_rfl) (fun _ _ _ h => h) (Or.inl ⟨by rfl, by intro W hW; have hc := hW.st.od.cell y hy; clear hW; go_simp⟩) hHeld ?_
              simp only [put_laws]
              refine take_at 8 115 (.bool false) rfl rfl (by kernel_rfl) (by kernel_rfl) (by kernel_rfl) (fun _ _ _ h => h) (Or.inl ⟨by rfl, by intro W hW; clear hW; go_simp⟩) hHeld ?_
              simp only [put_laws]
              refine take_at 9 116 (.bool false) rfl rfl (by kernel_rfl) (by kernel_rfl) (by kernel_rfl) (fun _ _ _ h => h) (Or.inl ⟨by rfl, by intro W hW; clear hW; go_simp⟩) hHeld ?_
              simp only [put_laws]
              refine take_at 10 117 undef rfl rfl (by kernel_rfl) (by kernel_rfl) (by kernel_rfl) (fun _ _ _ h => h) (Or.inr ⟨by rfl, rfl⟩) hHeld ?_
              simp only [put_laws]
              refine take_at 11 118 undef rfl rfl (by kernel_rfl) (by kernel_rfl) (by kernel_rfl) (fun _ _ _ h => h) (Or.inr ⟨by rfl, rfl⟩) hHeld ?_
              simp only [put_laws]
              refine take_at 12 119 undef rfl rfl (by kernel_rfl) (by kernel_rfl) (by kernel_rfl) (fun _ _ _ h => h) (Or.inr ⟨by rfl, rfl⟩) hHeld ?_
              simp only [put_laws]
              refine take_at 13 120 undef rfl rfl (by kernel_rfl) (by kernel_rfl) (by kernel_rfl) (fun _ _ _ h => h) (Or.inr ⟨by rfl, rfl⟩) hHeld ?_
              simp only [put_laws]
              refine take_at 14 121 undef rfl rfl (by kernel_rfl) (by kernel_rfl) (by kernel_rfl) (fun _ _ _ h => h) (Or.inr ⟨by rfl, rfl⟩) hHeld ?_
              simp only [put_laws]
              refine take_at 15 122 undef rfl rfl (by kernel_rfl) (by kernel_rfl) (by kernel_rfl) (fun _ _ _ h => h) (Or.inr ⟨by rfl, rfl⟩) hHeld ?_
              simp only [put_laws]
              refine take_at 16 123 undef rfl rfl (by kernel_rfl) (by kernel_rfl) (by kernel_rfl) (fun _ _ _ h => h) (Or.inr ⟨by rfl, rfl⟩) hHeld ?_
              simp only [put_laws]
              refine take_at 17 124 undef rfl rfl (by kernel_rfl) (by kernel_rfl) (by kernel_rfl) (fun _ _ _ h => h) (Or.inr ⟨by rfl, rfl⟩) hHeld ?_
              simp only [put_laws]
              refine take_at 18 125 (.bool false) rfl rfl (by kernel_rfl) (by kernel_rfl) (by kernel_rfl) (fun _ _ _ h => h) (Or.inl ⟨by rfl, by intro W hW; clear hW; go_simp⟩) hHeld ?_
              simp only [put_laws]
              refine take_at 19 126 (.bool false) rfl rfl (by kernel_rfl) (by kernel_rfl) (by kernel_rfl) (fun _ _ _ h => h) (Or.inl ⟨by rfl, by intro W hW; clear hW; go_simp⟩) hHeld ?_
              simp only [put_laws]
              refine take_at 20 127 (.bool false) rfl rfl (by kernel_rfl) (by kernel_rfl) (by kernel_rfl) (fun _ _ _ h => h) (Or.inl ⟨by rfl, by intro W hW; clear hW; go_simp⟩) hHeld ?_
              simp only [put_laws]
              refine take_at 21 128 (.bool false) rfl rfl (by kernel_rfl) (by kernel_rfl) (by kernel_rfl) (fun _ _ _ h => h) (Or.inl ⟨by rfl, by intro W hW; clear hW; go_simp⟩) hHeld ?_
              simp only [put_laws]
              refine take_at 22 129 (.bool true) rfl rfl (by kernel_rfl) (by kernel_rfl) (by kernel_rfl) (fun _ _ _ h => h) (Or.inl ⟨by rfl, by intro W hW; clear hW; go_simp⟩) hHeld ?_
              simp only [put_laws]
              refine take_at 23 130 (.bool true) rfl rfl (by kernel_rfl) (by kernel_rfl) (by kernel_rfl) (fun _ _ _ h => h) (Or.inl ⟨by rfl, by intro W hW; clear hW; go_simp⟩) hHeld ?_
              simp only [put_laws]
              refine take_at 24 131 (.int .i64 (j : Nat)) rfl rfl (by kernel_rfl) (by kernel_rfl) (by kernel_rfl) (fun _ _ _ h => h) (Or.inl ⟨by rfl, by intro W hW; clear hW; go_simp⟩) hHeld ?_
              simp only [put_laws]
              refine take_at 25 132 (.pointer (some ⟨w5.heap.size + 1, j, none⟩)) rfl rfl (by kernel_rfl) (by kernel_rfl) (by kernel_rfl) (fun _ _ _ h => h) (Or.inl ⟨by rfl, by intro W hW; clear hW; go_simp; try (intro h; omega)⟩) hHeld ?_
              simp only [put_laws]
              refine take_at 26 133 (.int .i64 ((Od.moved M O x y) j)) rfl rfl (by kernel_rfl) (by kernel_rfl) (by kernel_rfl) (fun _ _ _ h => h) (Or.inl ⟨by rfl, by intro W hW; have hc := hW.q.cell j hj; clear hW; go_simp⟩) hHeld ?_
              simp only [put_laws]
              refine take_at 27 134 (.int .i64 (j : Nat)) rfl rfl (by kernel_rfl) (by kernel_rfl) (by kernel_rfl) (fun _ _ _ h => h) (Or.inl ⟨by rfl, by intro W hW; clear hW; go_simp⟩) hHeld ?_
              simp only [put_laws]
              refine take_at 28 135 (.pointer (some ⟨w2.heap.size + 1, j, none⟩)) rfl rfl (by kernel_rfl) (by kernel_rfl) (by kernel_rfl) (fun _ _ _ h => h) (Or.inl ⟨by rfl, by intro W hW; clear hW; go_simp; try (intro h; omega)⟩) hHeld ?_
              simp only [put_laws]
              refine take_at 29 136 (.int .i64 (O j)) rfl rfl (by kernel_rfl) (by kernel_rfl) (by kernel_rfl) (fun _ _ _ h => h) (Or.inl ⟨by rfl, by intro W hW; have hc := hW.st.od.cell j hj; clear hW; go_simp⟩) hHeld ?_
              simp only [put_laws]
              refine take_at 30 137 (.bool false) rfl rfl (by kernel_rfl) (by kernel_rfl) (by kernel_rfl) (fun _ _ _ h => h) (Or.inl ⟨by rfl, by intro W hW; clear hW; go_simp⟩) hHeld ?_
              simp only [put_laws]
              refine take_at 31 138 (.bool false) rfl rfl (by kernel_rfl) (by kernel_rfl) (by kernel_rfl) (fun _ _ _ h => h) (Or.inl ⟨by rfl, by intro W hW; clear hW; go_simp⟩) hHeld ?_
              simp only [put_laws]
              refine take_at 32 139 (.bool false) rfl rfl (by kernel_rfl) (by kernel_rfl) (by kernel_rfl) (fun _ _ _ h => h) (Or.inl ⟨by rfl, by intro W hW; clear hW; go_simp⟩) hHeld ?_
              simp only [put_laws]
              refine wpAnyH_done (by kernel_rfl) ?_ _
              refine NoPanic.normal ?_
              have HK8 := Lib.hid hHeld
              clear hHeld HK7
              go_wp2
              exact ⟨⟨j + 1, by omega, by go_num, HK8.out⟩, by simp [intOf]; omega⟩
          · obtain rfl : j = 32 := by omega
            go_wp2
            refine wp_region_noPanic ?_
            refine region_start (S := KSt w w2.heap.size (w2.heap.size + 1) (w5.heap.size + 1) M O (Od.moved M O x y) x y) 10 rfl (by kernel_rfl) (HKr.out.below (below_drew _)) (fun hHeld => ?_)
            refine take_at 0 141 (.pointer (some ⟨w.heap.size, 0, none⟩)) rfl rfl (by kernel_rfl) (by kernel_rfl) (by kernel_rfl) (fun _ _ _ h => h) (Or.inl ⟨by rfl, by intro W hW; clear hW; go_simp; try (intro h; omega)⟩) hHeld ?_
            simp only [put_laws]
            refine take_at 1 142 (.int .i64 (x : Nat)) rfl rfl (by kernel_rfl) (by kernel_rfl) (by kernel_rfl) (fun _ _ _ h => h) (Or.inl ⟨by rfl, by intro W hW; have hc := hW.c0; clear hW; go_simp⟩) hHeld ?_
            simp only [put_laws]
            refine take_at 2 143 (.pointer (some ⟨w5.heap.size + 1, x, none⟩)) rfl rfl (by kernel_rfl) (by kernel_rfl) (by kernel_rfl) (fun _ _ _ h => h) (Or.inl ⟨by rfl, by intro W hW; clear hW; go_simp; try (intro h; omega)⟩) hHeld ?_
            simp only [put_laws]
            refine take_at 3 144 (.int .i64 ((Od.moved M O x y) x)) rfl rfl (by kernel_rfl) (by kernel_rfl) (by kernel_rfl) (fun _ _ _ h => h) (Or.inl ⟨by rfl, by intro W hW; have hc := hW.q.cell x hx; clear hW; go_simp⟩) hHeld ?_
            simp only [put_laws]
            refine take_at 4 145 (.pointer (some ⟨w.heap.size, 1, none⟩)) rfl rfl (by kernel_rfl) (by kernel_rfl) (by kernel_rfl) (fun _ _ _ h => h) (Or.inl ⟨by rfl, by intro W hW; clear hW; go_simp; try (intro h; omega)⟩) hHeld ?_
            simp only [put_laws]
            refine take_at 5 146 (.int .i64 (y : Nat)) rfl rfl (by kernel_rfl) (by kernel_rfl) (by kernel_rfl) (fun _ _ _ h => h) (Or.inl ⟨by rfl, by intro W hW; have hc := hW.c1; clear hW; go_simp⟩) hHeld ?_
            simp only [put_laws]
            refine take_at 6 147 (.pointer (some ⟨w5.heap.size + 1, y, none⟩)) rfl rfl (by kernel_rfl) (by kernel_rfl) (by kernel_rfl) (fun _ _ _ h => h) (Or.inl ⟨by rfl, by intro W hW; clear hW; go_simp; try (intro h; omega)⟩) hHeld ?_
            simp only [put_laws]
            refine take_at 7 148 (.int .i64 ((Od.moved M O x y) y)) rfl rfl (by kernel_rfl) (by kernel_rfl) (by kernel_rfl) (fun _ _ _ h => h) (Or.inl ⟨by rfl, by intro W hW; have hc := hW.q.cell y hy; clear hW; go_simp⟩) hHeld ?_
            simp only [put_laws]
            refine take_at 8 149 (.bool true) rfl rfl (by kernel_rfl) (by kernel_rfl) (by kernel_rfl) (fun _ _ _ h => h) (Or.inl ⟨by rfl, by intro W hW; clear hW; go_simp⟩) hHeld ?_
            simp only [put_laws]
            refine take_at 9 4 (.bool true) rfl rfl (by kernel_rfl) (by kernel_rfl) (by kernel_rfl) (fun _ _ _ h => h) (Or.inl ⟨by rfl, by intro W hW; clear hW; go_simp⟩) hHeld ?_
            simp only [put_laws]
            refine wpAnyH_done (by kernel_rfl) ?_ _
            refine NoPanic.normal ?_
            go_wp2
            go_ret
            exact ⟨rfl, hHeld.st.bel⟩
set_option maxHeartbeats 1000000 in
set_option maxRecDepth 100000 in
theorem keeps_e1 (A : Option Addr) (n c : Nat) (ea eb : Int) (w : World) (h : (80 : Int) < (n : Int)) (hT : TabAt w) :
    Calls Tryd.prog 6 #[.slice A n c, .agg #[.int .i64 ea, .int .i64 eb]] w fun e w' => e = .returned (.bool true) ∧ Below w.heap.size w w' := by
  have HT := Lib.hid hT
  have hx0 : (w.alloc (.cells #[.int .i64 ea, .int .i64 eb] 28)).cell? ⟨w.heap.size, 0, none⟩ = some (.int .i64 ea) := by rw [cell_of_row _ _ _ _ _ _ (heap_alloc_new _ _)]; rfl
  have hx1 : (w.alloc (.cells #[.int .i64 ea, .int .i64 eb] 28)).cell? ⟨w.heap.size, 1, none⟩ = some (.int .i64 eb) := by rw [cell_of_row _ _ _ _ _ _ (heap_alloc_new _ _)]; rfl
  have HX0 := Lib.hid hx0
  have HX1 := Lib.hid hx1
  clear hT hx0 hx1
  go_enter Tryd.func6, Tryd.ntmps6
  go_wp2_with fail
  refine (alive_any _ (tabAt_new HT.out _)).mono ?_
  rintro e w1 ⟨rfl, hb1⟩
  have k0 := cell_keep HX0.out hb1
  have k1 := cell_keep HX1.out hb1
  have HB1 := Lib.hid ((below_new w (.cells #[.int .i64 ea, .int .i64 eb] 28)).trans (hb1.mono (below_new w (.cells #[.int .i64 ea, .int .i64 eb] 28)).size))
  clear hb1 HX0 HX1
  go_wp2
  go_ret
  exact ⟨rfl, HB1.out⟩
set_option maxHeartbeats 1000000 in
set_option maxRecDepth 100000 in
theorem keeps_e2 (A : Option Addr) (n c : Nat) (ea eb : Int) (w : World) (hn : ¬ (80 : Int) < (n : Int)) (h : ea < 0) (hT : TabAt w) :
    Calls Tryd.prog 6 #[.slice A n c, .agg #[.int .i64 ea, .int .i64 eb]] w fun e w' => e = .returned (.bool true) ∧ Below w.heap.size w w' := by
  have HT := Lib.hid hT
  have hx0 : (w.alloc (.cells #[.int .i64 ea, .int .i64 eb] 28)).cell? ⟨w.heap.size, 0, none⟩ = some (.int .i64 ea) := by rw [cell_of_row _ _ _ _ _ _ (heap_alloc_new _ _)]; rfl
  have hx1 : (w.alloc (.cells #[.int .i64 ea, .int .i64 eb] 28)).cell? ⟨w.heap.size, 1, none⟩ = some (.int .i64 eb) := by rw [cell_of_row _ _ _ _ _ _ (heap_alloc_new _ _)]; rfl
  have HX0 := Lib.hid hx0
  have HX1 := Lib.hid hx1
  have d0 : decide ((80 : Int) < (n : Int)) = false := by simpa using hn
  clear hT hx0 hx1
  go_enter Tryd.func6, Tryd.ntmps6
  go_wp2_with fail
  refine (alive_any _ (tabAt_new HT.out _)).mono ?_
  rintro e w1 ⟨rfl, hb1⟩
  have k0 := cell_keep HX0.out hb1
  have k1 := cell_keep HX1.out hb1
  have HB1 := Lib.hid ((below_new w (.cells #[.int .i64 ea, .int .i64 eb] 28)).trans (hb1.mono (below_new w (.cells #[.int .i64 ea, .int .i64 eb] 28)).size))
  clear hb1 HX0 HX1
  go_wp2
  go_ret
  exact ⟨rfl, HB1.out⟩
set_option maxHeartbeats 1000000 in
set_option maxRecDepth 100000 in
theorem keeps_e3 (A : Option Addr) (n c : Nat) (ea eb : Int) (w : World) (hn : ¬ (80 : Int) < (n : Int)) (h2 : ¬ ea < 0) (h : 31 < ea) (hT : TabAt w) :
    Calls Tryd.prog 6 #[.slice A n c, .agg #[.int .i64 ea, .int .i64 eb]] w fun e w' => e = .returned (.bool true) ∧ Below w.heap.size w w' := by
  have HT := Lib.hid hT
  have hx0 : (w.alloc (.cells #[.int .i64 ea, .int .i64 eb] 28)).cell? ⟨w.heap.size, 0, none⟩ = some (.int .i64 ea) := by rw [cell_of_row _ _ _ _ _ _ (heap_alloc_new _ _)]; rfl
  have hx1 : (w.alloc (.cells #[.int .i64 ea, .int .i64 eb] 28)).cell? ⟨w.heap.size, 1, none⟩ = some (.int .i64 eb) := by rw [cell_of_row _ _ _ _ _ _ (heap_alloc_new _ _)]; rfl
  have HX0 := Lib.hid hx0
  have HX1 := Lib.hid hx1
  have d0 : decide ((80 : Int) < (n : Int)) = false := by simpa using hn
  have d1 : decide (ea < 0) = false := by simpa using h2
  clear hT hx0 hx1
  go_enter Tryd.func6, Tryd.ntmps6
  go_wp2_with fail
  refine (alive_any _ (tabAt_new HT.out _)).mono ?_
  rintro e w1 ⟨rfl, hb1⟩
  have k0 := cell_keep HX0.out hb1
  have k1 := cell_keep HX1.out hb1
  have HB1 := Lib.hid ((below_new w (.cells #[.int .i64 ea, .int .i64 eb] 28)).trans (hb1.mono (below_new w (.cells #[.int .i64 ea, .int .i64 eb] 28)).size))
  clear hb1 HX0 HX1
  go_wp2
  go_ret
  exact ⟨rfl, HB1.out⟩
set_option maxHeartbeats 1000000 in
set_option maxRecDepth 100000 in
theorem keeps_e4 (A : Option Addr) (n c : Nat) (ea eb : Int) (w : World) (hn : ¬ (80 : Int) < (n : Int)) (h2 : ¬ ea < 0) (h3 : ¬ 31 < ea) (h : eb < 0) (hT : TabAt w) :
    Calls Tryd.prog 6 #[.slice A n c, .agg #[.int .i64 ea, .int .i64 eb]] w fun e w' => e = .returned (.bool true) ∧ Below w.heap.size w w' := by
  have HT := Lib.hid hT
  have hx0 : (w.alloc (.cells #[.int .i64 ea, .int .i64 eb] 28)).cell? ⟨w.heap.size, 0, none⟩ = some (.int .i64 ea) := by rw [cell_of_row _ _ _ _ _ _ (heap_alloc_new _ _)]; rfl
  have hx1 : (w.alloc (.cells #[.int .i64 ea, .int .i64 eb] 28)).cell? ⟨w.heap.size, 1, none⟩ = some (.int .i64 eb) := by rw [cell_of_row _ _ _ _ _ _ (heap_alloc_new _ _)]; rfl
  have HX0 := Lib.hid hx0
  have HX1 := Lib.hid hx1
  have d0 : decide ((80 : Int) < (n : Int)) = false := by simpa using hn
  have d1 : decide (ea < 0) = false := by simpa using h2
  have d2 : decide (31 < ea) = false := by simpa using h3
  clear hT hx0 hx1
  go_enter Tryd.func6, Tryd.ntmps6
  go_wp2_with fail
  refine (alive_any _ (tabAt_new HT.out _)).mono ?_
  rintro e w1 ⟨rfl, hb1⟩
  have k0 := cell_keep HX0.out hb1
  have k1 := cell_keep HX1.out hb1
  have HB1 := Lib.hid ((below_new w (.cells #[.int .i64 ea, .int .i64 eb] 28)).trans (hb1.mono (below_new w (.cells #[.int .i64 ea, .int .i64 eb] 28)).size))
  clear hb1 HX0 HX1
  go_wp2
  go_ret
  exact ⟨rfl, HB1.out⟩
set_option maxHeartbeats 1000000 in
set_option maxRecDepth 100000 in
theorem keeps_e5 (A : Option Addr) (n c : Nat) (ea eb : Int) (w : World) (hn : ¬ (80 : Int) < (n : Int)) (h2 : ¬ ea < 0) (h3 : ¬ 31 < ea) (h4 : ¬ eb < 0) (h : 31 < eb) (hT : TabAt w) :
    Calls Tryd.prog 6 #[.slice A n c, .agg #[.int .i64 ea, .int .i64 eb]] w fun e w' => e = .returned (.bool true) ∧ Below w.heap.size w w' := by
  have HT := Lib.hid hT
  have hx0 : (w.alloc (.cells #[.int .i64 ea, .int .i64 eb] 28)).cell? ⟨w.heap.size, 0, none⟩ = some (.int .i64 ea) := by rw [cell_of_row _ _ _ _ _ _ (heap_alloc_new _ _)]; rfl
  have hx1 : (w.alloc (.cells #[.int .i64 ea, .int .i64 eb] 28)).cell? ⟨w.heap.size, 1, none⟩ = some (.int .i64 eb) := by rw [cell_of_row _ _ _ _ _ _ (heap_alloc_new _ _)]; rfl
  have HX0 := Lib.hid hx0
  have HX1 := Lib.hid hx1
  have d0 : decide ((80 : Int) < (n : Int)) = false := by simpa using hn
  have d1 : decide (ea < 0) = false := by simpa using h2
  have d2 : decide (31 < ea) = false := by simpa using h3
  have d3 : decide (eb < 0) = false := by simpa using h4
  clear hT hx0 hx1
  go_enter Tryd.func6, Tryd.ntmps6
  go_wp2_with fail
  refine (alive_any _ (tabAt_new HT.out _)).mono ?_
  rintro e w1 ⟨rfl, hb1⟩
  have k0 := cell_keep HX0.out hb1
  have k1 := cell_keep HX1.out hb1
  have HB1 := Lib.hid ((below_new w (.cells #[.int .i64 ea, .int .i64 eb] 28)).trans (hb1.mono (below_new w (.cells #[.int .i64 ea, .int .i64 eb] 28)).size))
  clear hb1 HX0 HX1
  go_wp2
  go_ret
  exact ⟨rfl, HB1.out⟩
theorem topoKeeps_any (A : Option Addr) (n c : Nat) (es : Nat → Int × Int) (ea eb : Int) (w : World) (hE : EdgesAt w A n c es) (hea : i64p ea) (heb : i64p eb) (hT : TabAt w) :
    Calls Tryd.prog 6 #[.slice A n c, .agg #[.int .i64 ea, .int .i64 eb]] w fun e w' => e = .returned (.bool true) ∧ Below w.heap.size w w' := by
  by_cases h1 : (80 : Int) < (n : Int)
  · exact keeps_e1 A n c ea eb w h1 hT
  · by_cases h2 : ea < 0
    · exact keeps_e2 A n c ea eb w h1 h2 hT
    · by_cases h3 : 31 < ea
      · exact keeps_e3 A n c ea eb w h1 h2 h3 hT
      · by_cases h4 : eb < 0
        · exact keeps_e4 A n c ea eb w h1 h2 h3 h4 hT
        · by_cases h5 : 31 < eb
          · exact keeps_e5 A n c ea eb w h1 h2 h3 h4 h5 hT
          · obtain ⟨x, hx⟩ := Int.eq_ofNat_of_zero_le (show 0 ≤ ea by omega)
            obtain ⟨y, hy⟩ := Int.eq_ofNat_of_zero_le (show 0 ≤ eb by omega)
            exact topoKeeps_few A n c es ea eb w hE hea heb (by omega) x y hx hy (by omega) (by omega) hT
end Go.Proofs.YtgelfjoacppkcaaDoor
