/-
  Contracts of the document's own Free, New, End, Edge of pools.
-/
import Derived.Test.YtakoceablbgchaaDoorPoolColl
import Derived.Test.YtakoceablbgchaaDoorTopoRIns2
namespace Go.Proofs.YtakoceablbgchaaDoor
open Go.RowKit
attribute [local go_sem ↓] Go.wp_at_zero Go.wp_at_succ
theorem has_or (x y : Nat) (i : Int) : Sm.has (x ||| y) i = (Sm.has x i || Sm.has y i) := by
  unfold Sm.has
  rw [Nat.testBit_or]
  cases decide (0 ≤ i) <;> cases decide (i ≤ 63) <;> simp
set_option maxHeartbeats 1000000 in
set_option maxRecDepth 100000 in
theorem rfree_pool (p : Pl) (s : Int) (w : World) (hp : p.Ok) (h0 : -9223372036854775808 ≤ s) (h1 : s ≤ 9223372036854775807) :
    Calls Tryd.prog 38 #[.agg (poolA p), .int .i64 s] w fun e w' => e = .returned (.bool (!Po.taken p s)) ∧ Below w.heap.size w w' := by
  have P0 := poolAt_new w p 38
  have hc1 := P0.live_
  have hc2 := P0.done_
  have HP := Lib.hid hp
  have HE := Lib.hid (has_or p.live p.done s)
  clear P0 hp
  unfold Po.taken
  go_enter Tryd.func38, Tryd.ntmps38
  cases hl : Sm.has p.live s
  · have HL := Lib.hid hl
    clear hl
    go_wp2_with fail
    refine (rhas_val p.live s false _ HP.out.live h0 h1 HL.out).mono ?_
    rintro e w' ⟨rfl, rfl⟩
    go_wp2_with fail
    refine (rhas_any p.done s _ HP.out.done h0 h1).mono ?_
    rintro e w' ⟨rfl, rfl⟩
    go_wp2
    go_ret
    rw [HE.out, HL.out, Bool.false_or]
    exact ⟨rfl, below_new _ _⟩
  · have HL := Lib.hid hl
    clear hl
    go_wp2_with fail
    refine (rhas_val p.live s true _ HP.out.live h0 h1 HL.out).mono ?_
    rintro e w' ⟨rfl, rfl⟩
    go_wp2
    go_ret
    rw [HE.out, HL.out, Bool.true_or]
    exact ⟨rfl, below_new _ _⟩
theorem rfree_pval (p : Pl) (s : Int) (b : Bool) (w : World) (hp : p.Ok) (h0 : -9223372036854775808 ≤ s) (h1 : s ≤ 9223372036854775807) (h : Po.taken p s = b) :
    Calls Tryd.prog 38 #[.agg (poolA p), .int .i64 s] w fun e w' => e = .returned (.bool (!b)) ∧ Below w.heap.size w w' := by
  have := rfree_pool p s w hp h0 h1
  rw [h] at this; exact this
set_option maxHeartbeats 1000000 in
set_option maxRecDepth 100000 in
theorem prnew_yes (n : Int) (w : World) (h : 1 ≤ n ∧ n ≤ 32) :
    Calls Tryd.prog 11 #[.int .i64 n] w fun e w' => e = .returned (.tuple #[.agg (poolA (Po.newP n)), .bool true]) ∧ Below w.heap.size w w' := by
  have hz := (zero_of_info zero_rpool_info).1
  have H0 := Lib.hid (pst_first zeroP 38 w)
  go_enter Tryd.func11, Tryd.ntmps11
  go_wp2_with fail
  refine (rnew_any _).mono ?_
  rintro e w1 ⟨rfl, hb1⟩
  have H1 := Lib.hid (H0.out.below hb1)
  clear hb1 H0
  go_wp2_with (first
    | (refine wpList_build rfl 38 #[(0, .tmp 11), (2, .tmp 12)] rfl #[(0, .int .i64 n), (2, .agg (ordA Od.newO))] (by simp [Act.eval]) _ (rbuild_new n _) ?_)
    | (refine store_pool rfl 38 (.tmp 2) (.tmp 13) rfl rfl w.heap.size _ (Po.newP n) 38 rfl rfl H1.out.po rpool_info ?_))
  refine bodyPost_ret (results_pool rfl _ _ w.heap.size 38 (Po.newP n) _ (.bool true) rfl rfl (poolAt_put H1.out.po) Tryd.underlying38 rfl rpool_info) rfl ⟨rfl, ?_⟩
  exact setRow_below H1.out.bel (Nat.le_refl _)
set_option maxHeartbeats 1000000 in
set_option maxRecDepth 100000 in
theorem prnew_no (n : Int) (w : World) (h : n < 1 ∨ 32 < n) (h0 : -9223372036854775808 ≤ n) (h1 : n ≤ 9223372036854775807) :
    Calls Tryd.prog 11 #[.int .i64 n] w fun e w' => e = .returned (.tuple #[.agg (poolA zeroP), .bool false]) ∧ Below w.heap.size w w' := by
  have hz := (zero_of_info zero_rpool_info).1
  have H0 := Lib.hid (pst_first zeroP 38 w)
  have hbn := rbuild_none
  go_enter Tryd.func11, Tryd.ntmps11
  by_cases hl : n < 1
  · go_wp2_with (refine store_pool rfl 38 (.tmp 2) (.tmp 10) rfl rfl w.heap.size _ zeroP 38 rfl rfl H0.out.po rpool_info ?_)
    refine bodyPost_ret (results_pool rfl _ _ w.heap.size 38 zeroP _ (.bool false) rfl rfl (poolAt_put H0.out.po) Tryd.underlying38 rfl rpool_info) rfl ⟨rfl, ?_⟩
    exact setRow_below H0.out.bel (Nat.le_refl _)
  · have hg : 32 < n := by omega
    go_wp2_with (refine store_pool rfl 38 (.tmp 2) (.tmp 10) rfl rfl w.heap.size _ zeroP 38 rfl rfl H0.out.po rpool_info ?_)
    refine bodyPost_ret (results_pool rfl _ _ w.heap.size 38 zeroP _ (.bool false) rfl rfl (poolAt_put H0.out.po) Tryd.underlying38 rfl rpool_info) rfl ⟨rfl, ?_⟩
    exact setRow_below H0.out.bel (Nat.le_refl _)
/- the document's End -/
set_option maxHeartbeats 1000000 in
set_option maxRecDepth 100000 in
theorem rend_no (p : Pl) (s : Int) (w : World) (hp : p.Ok) (h0 : -9223372036854775808 ≤ s) (h1 : s ≤ 9223372036854775807) (hs : Sm.has p.live s = false) :
    Calls Tryd.prog 33 #[.agg (poolA p), .int .i64 s] w fun e w' => e = .returned (.tuple #[.agg (poolA p), .int .i64 3]) ∧ Below w.heap.size w w' := by
  have hz := (zero_of_info zero_rpool_info).1
  have H0 := Lib.hid (qst_first p 38 w)
  have HP := Lib.hid hp
  have HS := Lib.hid hs
  have hc := H0.out.po.live_
  clear hp hs
  go_enter Tryd.func33, Tryd.ntmps33
  go_wp2_with fail
  refine (rhas_val p.live s false _ HP.out.live h0 h1 HS.out).mono ?_
  rintro e w' ⟨rfl, rfl⟩
  go_wp2_with (first
    | (refine load_pool rfl 38 (.tmp 2) rfl w.heap.size p 38 rfl _ H0.out.po Tryd.underlying38 rfl rpool_info ?_)
    | (refine store_pool rfl 38 (.tmp 4) (.tmp 11) rfl rfl (w.heap.size + 1) _ p 38 rfl rfl H0.out.re rpool_info ?_))
  refine bodyPost_ret (results_pool rfl _ _ (w.heap.size + 1) 38 p _ (.int .i64 3) rfl rfl (H0.out.tell p).re Tryd.underlying38 rfl rpool_info) rfl ⟨rfl, (H0.out.tell p).bel⟩
set_option maxHeartbeats 1000000 in
set_option maxRecDepth 100000 in
theorem rend_yes (p : Pl) (s : Int) (w : World) (hp : p.Ok) (h0 : -9223372036854775808 ≤ s) (h1 : s ≤ 9223372036854775807) (hs : Sm.has p.live s = true) :
    Calls Tryd.prog 33 #[.agg (poolA p), .int .i64 s] w fun e w' => e = .returned (.tuple #[.agg (poolA (Po.ended p s)), .int .i64 0]) ∧ Below w.heap.size w w' := by
  have hz := (zero_of_info zero_rpool_info).1
  have H0 := Lib.hid (qst_first p 38 w)
  have HP := Lib.hid hp
  have HS := Lib.hid hs
  have hc := H0.out.po.live_
  have hcf := H0.out.po.frozen 65
  clear hp hs
  go_enter Tryd.func33, Tryd.ntmps33
  go_wp2_with fail
  generalize (w.alloc (.cells (poolA p) 38)).alloc (.cells (poolA zeroP) 38) = W at *
  refine (rhas_val p.live s true _ HP.out.live h0 h1 HS.out).mono ?_
  rintro e w' ⟨rfl, rfl⟩
  go_wp2_with fail
  refine (rless_any p.live s _ HP.out.live h0 h1).mono ?_
  rintro e w' ⟨rfl, rfl⟩
  have H1 := Lib.hid (H0.out.put_live (Sm.less p.live s))
  have hd := H1.out.po.done_
  have hdf := H1.out.po.frozen 66
  go_wp2_with fail
  refine (rwith_any p.done s _ HP.out.done h0 h1).mono ?_
  rintro e w' ⟨rfl, rfl⟩
  have H2 := Lib.hid (H1.out.put_done (Sm.add p.done s))
  go_wp2_with (first
    | (refine load_pool rfl 38 (.tmp 2) rfl w.heap.size _ 38 rfl _ H2.out.po Tryd.underlying38 rfl rpool_info ?_)
    | (refine store_pool rfl 38 (.tmp 4) (.tmp 22) rfl rfl (w.heap.size + 1) _ _ 38 rfl rfl H2.out.re rpool_info ?_))
  refine bodyPost_ret (results_pool rfl _ _ (w.heap.size + 1) 38 (Po.ended p s) _ (.int .i64 0) rfl rfl (H2.out.tell _).re Tryd.underlying38 rfl rpool_info) rfl ⟨rfl, (H2.out.tell _).bel⟩
theorem rend_any (p : Pl) (s : Int) (w : World) (hp : p.Ok) (h0 : -9223372036854775808 ≤ s) (h1 : s ≤ 9223372036854775807) :
    Calls Tryd.prog 33 #[.agg (poolA p), .int .i64 s] w fun e w' => e = .returned (.tuple #[.agg (poolA (Po.endP p s).1), .int .i64 (Po.endP p s).2]) ∧ Below w.heap.size w w' := by
  unfold Po.endP
  cases hs : Sm.has p.live s
  · exact rend_no p s w hp h0 h1 hs
  · exact rend_yes p s w hp h0 h1 hs
set_option maxHeartbeats 1000000 in
set_option maxRecDepth 100000 in
theorem redge_arg (p : Pl) (a : Int) (w : World) :
    Calls Tryd.prog 32 #[.agg (poolA p), .int .i64 a, .int .i64 a] w fun e w' => e = .returned (.tuple #[.agg (poolA p), .int .i64 2]) ∧ Below w.heap.size w w' := by
  have hz := (zero_of_info zero_rpool_info).1
  have H0 := Lib.hid (qst_first p 38 w)
  go_enter Tryd.func32, Tryd.ntmps32
  go_wp2_with (first
    | (refine load_pool rfl 38 (.tmp 3) rfl w.heap.size p 38 rfl _ H0.out.po Tryd.underlying38 rfl rpool_info ?_)
    | (refine store_pool rfl 38 (.tmp 6) (.tmp 14) rfl rfl (w.heap.size + 1) _ p 38 rfl rfl H0.out.re rpool_info ?_))
  refine bodyPost_ret (results_pool rfl _ _ (w.heap.size + 1) 38 p _ (.int .i64 2) rfl rfl (H0.out.tell p).re Tryd.underlying38 rfl rpool_info) rfl ⟨rfl, (H0.out.tell p).bel⟩
set_option maxHeartbeats 2000000 in
set_option maxRecDepth 100000 in
theorem redge_none1 (p : Pl) (a b : Int) (w : World) (hp : p.Ok) (ha : -9223372036854775808 ≤ a ∧ a ≤ 9223372036854775807) (_ : -9223372036854775808 ≤ b ∧ b ≤ 9223372036854775807) (hab : a ≠ b) (h1 : Po.taken p a = false) :
    Calls Tryd.prog 32 #[.agg (poolA p), .int .i64 a, .int .i64 b] w fun e w' => e = .returned (.tuple #[.agg (poolA p), .int .i64 3]) ∧ Below w.heap.size w w' := by
  have hz := (zero_of_info zero_rpool_info).1
  have H0 := Lib.hid (qst_first p 38 w)
  have HP := Lib.hid hp
  have HA := Lib.hid h1
  clear hp h1
  go_enter Tryd.func32, Tryd.ntmps32
  go_wp2_with (refine load_pool rfl 38 (.tmp 3) rfl w.heap.size p 38 rfl _ H0.out.po Tryd.underlying38 rfl rpool_info ?_)
  refine (rfree_pval p a false _ HP.out ha.1 ha.2 HA.out).mono ?_
  rintro e w1 ⟨rfl, hb1⟩
  have H1 := Lib.hid (H0.out.below hb1)
  clear hb1 H0
  go_wp2_with (first
    | (refine load_pool rfl 38 (.tmp 3) rfl w.heap.size p 38 rfl _ H1.out.po Tryd.underlying38 rfl rpool_info ?_)
    | (refine store_pool rfl 38 (.tmp 6) (.tmp 23) rfl rfl (w.heap.size + 1) _ p 38 rfl rfl H1.out.re rpool_info ?_))
  refine bodyPost_ret (results_pool rfl _ _ (w.heap.size + 1) 38 p _ (.int .i64 3) rfl rfl (H1.out.tell p).re Tryd.underlying38 rfl rpool_info) rfl ⟨rfl, (H1.out.tell p).bel⟩
set_option maxHeartbeats 2000000 in
set_option maxRecDepth 100000 in
theorem redge_none2 (p : Pl) (a b : Int) (w : World) (hp : p.Ok) (ha : -9223372036854775808 ≤ a ∧ a ≤ 9223372036854775807) (hb : -9223372036854775808 ≤ b ∧ b ≤ 9223372036854775807) (hab : a ≠ b) (h1 : Po.taken p a = true) (h2 : Po.taken p b = false) :
    Calls Tryd.prog 32 #[.agg (poolA p), .int .i64 a, .int .i64 b] w fun e w' => e = .returned (.tuple #[.agg (poolA p), .int .i64 3]) ∧ Below w.heap.size w w' := by
  have hz := (zero_of_info zero_rpool_info).1
  have H0 := Lib.hid (qst_first p 38 w)
  have HP := Lib.hid hp
  have HA := Lib.hid h1
  have HB := Lib.hid h2
  clear hp h1 h2
  go_enter Tryd.func32, Tryd.ntmps32
  go_wp2_with (refine load_pool rfl 38 (.tmp 3) rfl w.heap.size p 38 rfl _ H0.out.po Tryd.underlying38 rfl rpool_info ?_)
  refine (rfree_pval p a true _ HP.out ha.1 ha.2 HA.out).mono ?_
  rintro e w1 ⟨rfl, hb1⟩
  have H1 := Lib.hid (H0.out.below hb1)
  clear hb1 H0
  go_wp2_with (refine load_pool rfl 38 (.tmp 3) rfl w.heap.size p 38 rfl _ H1.out.po Tryd.underlying38 rfl rpool_info ?_)
  refine (rfree_pval p b false _ HP.out hb.1 hb.2 HB.out).mono ?_
  rintro e w2 ⟨rfl, hb2⟩
  have H2 := Lib.hid (H1.out.below hb2)
  clear hb2 H1
  go_wp2_with (first
    | (refine load_pool rfl 38 (.tmp 3) rfl w.heap.size p 38 rfl _ H2.out.po Tryd.underlying38 rfl rpool_info ?_)
    | (refine store_pool rfl 38 (.tmp 6) (.tmp 23) rfl rfl (w.heap.size + 1) _ p 38 rfl rfl H2.out.re rpool_info ?_))
  refine bodyPost_ret (results_pool rfl _ _ (w.heap.size + 1) 38 p _ (.int .i64 3) rfl rfl (H2.out.tell p).re Tryd.underlying38 rfl rpool_info) rfl ⟨rfl, (H2.out.tell p).bel⟩
set_option maxHeartbeats 2000000 in
set_option maxRecDepth 100000 in
theorem redge_cycle (p : Pl) (a b : Int) (w : World) (hp : p.Ok) (ha : -9223372036854775808 ≤ a ∧ a ≤ 9223372036854775807) (hb : -9223372036854775808 ≤ b ∧ b ≤ 9223372036854775807) (hab : a ≠ b) (h1 : Po.taken p a = true) (h2 : Po.taken p b = true) (h3 : (Od.insert p.m p.o a b).2.2 = false) (hT : TabAt w) :
    Calls Tryd.prog 32 #[.agg (poolA p), .int .i64 a, .int .i64 b] w fun e w' => e = .returned (.tuple #[.agg (poolA p), .int .i64 5]) ∧ Below w.heap.size w w' := by
  have hz := (zero_of_info zero_rpool_info).1
  have H0 := Lib.hid (qst_first p 38 w)
  have HP := Lib.hid hp
  have HA := Lib.hid h1
  have HB := Lib.hid h2
  have HR := Lib.hid h3
  have HT := Lib.hid hT
  clear hp h1 h2 h3 hT
  go_enter Tryd.func32, Tryd.ntmps32
  go_wp2_with (refine load_pool rfl 38 (.tmp 3) rfl w.heap.size p 38 rfl _ H0.out.po Tryd.underlying38 rfl rpool_info ?_)
  refine (rfree_pval p a true _ HP.out ha.1 ha.2 HA.out).mono ?_
  rintro e w1 ⟨rfl, hb1⟩
  have H1 := Lib.hid (H0.out.below hb1)
  clear hb1 H0
  go_wp2_with (refine load_pool rfl 38 (.tmp 3) rfl w.heap.size p 38 rfl _ H1.out.po Tryd.underlying38 rfl rpool_info ?_)
  refine (rfree_pval p b true _ HP.out hb.1 hb.2 HB.out).mono ?_
  rintro e w2 ⟨rfl, hb2⟩
  have H2 := Lib.hid (H1.out.below hb2)
  clear hb2 H1
  go_wp2_with (first
    | (refine load_m rfl 35 (.tmp 25) rfl w.heap.size p 38 rfl _ H2.out.po Tryd.underlying35 rfl rmat_info ?_)
    | (refine load_o rfl 36 (.tmp 27) rfl w.heap.size p 38 rfl _ H2.out.po Tryd.underlying36 rfl rord_info ?_))
  refine (rinsert_any p.m p.o a b _ HP.out.m ha hb (tab_keep HT.out H2.out.bel)).mono ?_
  rintro e w3 ⟨rfl, hb3⟩
  have H3 := Lib.hid (H2.out.below hb3)
  have HW := Lib.hid (show w.heap.size + 2 ≤ w3.heap.size from H3.out.re.lt)
  clear hb3 H2
  rw [HR.out]
  generalize hX : (Od.insert p.m p.o a b).1 = X
  generalize hO : (Od.insert p.m p.o a b).2.1 = O
  have HX := Lib.hid hX
  have HO := Lib.hid hO
  clear hX hO
  go_wp2_with (first
    | (refine wpList_let2 rfl rfl 35 36 (.tmp 8) (.tmp 32) (.tmp 9) (.tmp 33) rfl rfl rfl rfl w3 X O rfl rfl rfl rfl rfl rfl rfl rmat_info rord_info ?_; intro w4 hM hO hB; have H4 := Lib.hid (H3.out.below hB); have HM := Lib.hid hM; have HO4 := Lib.hid hO; clear hM hO hB H3)
    | (refine load_pool rfl 38 (.tmp 3) rfl w.heap.size p 38 rfl _ H4.out.po Tryd.underlying38 rfl rpool_info ?_)
    | (refine store_pool rfl 38 (.tmp 6) (.tmp 37) rfl rfl (w.heap.size + 1) _ p 38 rfl rfl H4.out.re rpool_info ?_))
  refine bodyPost_ret (results_pool rfl _ _ (w.heap.size + 1) 38 p _ (.int .i64 5) rfl rfl (H4.out.tell p).re Tryd.underlying38 rfl rpool_info) rfl ⟨rfl, (H4.out.tell p).bel⟩
set_option maxHeartbeats 2000000 in
set_option maxRecDepth 100000 in
theorem redge_yes (p : Pl) (a b : Int) (w : World) (hp : p.Ok) (ha : -9223372036854775808 ≤ a ∧ a ≤ 9223372036854775807) (hb : -9223372036854775808 ≤ b ∧ b ≤ 9223372036854775807) (hab : a ≠ b) (h1 : Po.taken p a = true) (h2 : Po.taken p b = true) (h3 : (Od.insert p.m p.o a b).2.2 = true) (hT : TabAt w) :
    Calls Tryd.prog 32 #[.agg (poolA p), .int .i64 a, .int .i64 b] w fun e w' => e = .returned (.tuple #[.agg (poolA (Po.over p ((Od.insert p.m p.o a b).1, (Od.insert p.m p.o a b).2.1))), .int .i64 0]) ∧ Below w.heap.size w w' := by
  have hz := (zero_of_info zero_rpool_info).1
  have H0 := Lib.hid (qst_first p 38 w)
  have HP := Lib.hid hp
  have HA := Lib.hid h1
  have HB := Lib.hid h2
  have HR := Lib.hid h3
  have HT := Lib.hid hT
  clear hp h1 h2 h3 hT
  go_enter Tryd.func32, Tryd.ntmps32
  go_wp2_with (refine load_pool rfl 38 (.tmp 3) rfl w.heap.size p 38 rfl _ H0.out.po Tryd.underlying38 rfl rpool_info ?_)
  refine (rfree_pval p a true _ HP.out ha.1 ha.2 HA.out).mono ?_
  rintro e w1 ⟨rfl, hb1⟩
  have H1 := Lib.hid (H0.out.below hb1)
  clear hb1 H0
  go_wp2_with (refine load_pool rfl 38 (.tmp 3) rfl w.heap.size p 38 rfl _ H1.out.po Tryd.underlying38 rfl rpool_info ?_)
  refine (rfree_pval p b true _ HP.out hb.1 hb.2 HB.out).mono ?_
  rintro e w2 ⟨rfl, hb2⟩
  have H2 := Lib.hid (H1.out.below hb2)
  clear hb2 H1
  go_wp2_with (first
    | (refine load_m rfl 35 (.tmp 25) rfl w.heap.size p 38 rfl _ H2.out.po Tryd.underlying35 rfl rmat_info ?_)
    | (refine load_o rfl 36 (.tmp 27) rfl w.heap.size p 38 rfl _ H2.out.po Tryd.underlying36 rfl rord_info ?_))
  refine (rinsert_any p.m p.o a b _ HP.out.m ha hb (tab_keep HT.out H2.out.bel)).mono ?_
  rintro e w3 ⟨rfl, hb3⟩
  have H3 := Lib.hid (H2.out.below hb3)
  have HW := Lib.hid (show w.heap.size + 2 ≤ w3.heap.size from H3.out.re.lt)
  clear hb3 H2
  rw [HR.out]
  generalize hX : (Od.insert p.m p.o a b).1 = X
  generalize hO : (Od.insert p.m p.o a b).2.1 = O
  have HX := Lib.hid hX
  have HO := Lib.hid hO
  clear hX hO
  go_wp2_with (first
    | (refine wpList_let2 rfl rfl 35 36 (.tmp 8) (.tmp 32) (.tmp 9) (.tmp 33) rfl rfl rfl rfl w3 X O rfl rfl rfl rfl rfl rfl rfl rmat_info rord_info ?_; intro w4 hM hO hB; have H4 := Lib.hid (H3.out.below hB); have HM := Lib.hid hM; have HO4 := Lib.hid hO; clear hM hO hB H3)
    | (refine wpList_load_row rfl 35 (.tmp 8) rfl w3.heap.size rfl 35 (matA X) (0, 0) _ HM.out Tryd.underlying35 rfl (rmatInfo _) ?_)
    | (refine store_mQ rfl 35 (.tmp 39) (.tmp 38) rfl rfl w _ _ X 38 rfl rfl H4.out rmat_info ?_; intro w5 h5 _ k5; have H5 := Lib.hid h5; have HO5 := Lib.hid (show OrdAt w5 (w3.heap.size + 1) O 36 from (k5 _ (by have := HW.out; omega)).trans HO4.out); clear h5 k5)
    | (refine wpList_load_row rfl 36 (.tmp 9) rfl (w3.heap.size + 1) rfl 36 (ordA O) (0, 0) _ HO5.out Tryd.underlying36 rfl (rordInfo _) ?_)
    | (refine store_oQ rfl 36 (.tmp 41) (.tmp 40) rfl rfl w _ _ O 38 rfl rfl H5.out rord_info ?_; intro w6 h6 _ _; have HQ3 := Lib.hid (show QSt (Po.over p (X, O)) 38 w zeroP w6 from h6); clear h6)
    | (refine load_pool rfl 38 (.tmp 3) rfl w.heap.size (Po.over p (X, O)) 38 rfl _ HQ3.out.po Tryd.underlying38 rfl rpool_info ?_)
    | (refine store_pool rfl 38 (.tmp 6) (.tmp 42) rfl rfl (w.heap.size + 1) _ (Po.over p (X, O)) 38 rfl rfl HQ3.out.re rpool_info ?_))
  refine bodyPost_ret (results_pool rfl _ _ (w.heap.size + 1) 38 (Po.over p (X, O)) _ (.int .i64 0) rfl rfl (HQ3.out.tell _).re Tryd.underlying38 rfl rpool_info) rfl ⟨by rw [HX.out, HO.out], (HQ3.out.tell _).bel⟩
theorem redge_any (p : Pl) (a b : Int) (w : World) (hp : p.Ok) (ha : -9223372036854775808 ≤ a ∧ a ≤ 9223372036854775807) (hb : -9223372036854775808 ≤ b ∧ b ≤ 9223372036854775807) (hT : TabAt w) :
    Calls Tryd.prog 32 #[.agg (poolA p), .int .i64 a, .int .i64 b] w fun e w' => e = .returned (.tuple #[.agg (poolA (Po.edge p a b).1), .int .i64 (Po.edge p a b).2]) ∧ Below w.heap.size w w' := by
  unfold Po.edge
  by_cases hab : a = b
  · subst hab; rw [if_pos rfl]; exact redge_arg p a w
  rw [if_neg hab]
  cases h1 : Po.taken p a
  · rw [if_pos (.inl rfl)]; exact redge_none1 p a b w hp ha hb hab h1
  cases h2 : Po.taken p b
  · rw [if_pos (.inr rfl)]; exact redge_none2 p a b w hp ha hb hab h1 h2
  rw [if_neg (by simp)]
  cases h3 : (Od.insert p.m p.o a b).2.2
  · exact redge_cycle p a b w hp ha hb hab h1 h2 h3 hT
  · exact redge_yes p a b w hp ha hb hab h1 h2 h3 hT
end Go.Proofs.YtakoceablbgchaaDoor
