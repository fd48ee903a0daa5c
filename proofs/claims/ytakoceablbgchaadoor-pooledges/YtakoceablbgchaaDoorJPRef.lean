/-
  Contracts of the document's own Free, New, End, Edge of pools.
  The contract of the document's own Begin of pools.
  The contracts of the document's own source and Collect of pools.
  The contract of the document's own Collect of pools.
-/
import Derived.Test.YtakoceablbgchaaDoorJWalk
import Derived.Test.YtakoceablbgchaaDoorJRIns
namespace Go.Proofs.YtakoceablbgchaaDoor
open Go.RowKit
attribute [local go_sem ↓] Go.wp_at_zero Go.wp_at_succ
theorem has_or (x y : Nat) (i : Int) : Sm.has (x ||| y) i = (Sm.has x i || Sm.has y i) := by
  unfold Sm.has
  rw [Nat.testBit_or]
  cases decide (0 ≤ i) <;> cases decide (i ≤ 63) <;> simp
set_option maxHeartbeats 1000000 in
set_option maxRecDepth 100000 in
theorem rfree_pool (p : Pl) (s : Int) (w : World) (hp : p.Ok) (h0 : -9223372036854775808 ≤ s) (h1 : s ≤ 9223372036854775807) :
    Calls Tryd.prog 38 #[.agg (poolA p), .int .i64 s] w fun e w' => e = .returned (.bool (!Po.taken p s)) ∧ Below w.heap.size w w' := by
  have P0 := poolAt_new w p 38
  have hc1 := P0.live_
  have hc2 := P0.done_
  have HP := Lib.hid hp
  have HE := Lib.hid (has_or p.live p.done s)
  clear P0 hp
  unfold Po.taken
  go_enter Tryd.func38, Tryd.ntmps38
  cases hl : Sm.has p.live s
  · have HL := Lib.hid hl
    clear hl
    go_wp2_with fail
    refine (rhas_val p.live s false _ HP.out.live h0 h1 HL.out).mono ?_
    rintro e w' ⟨rfl, rfl⟩
    go_wp2_with fail
    refine (rhas_any p.done s _ HP.out.done h0 h1).mono ?_
    rintro e w' ⟨rfl, rfl⟩
    go_wp2
    go_ret
    rw [HE.out, HL.out, Bool.false_or]
    exact ⟨rfl, below_new _ _⟩
  · have HL := Lib.hid hl
    clear hl
    go_wp2_with fail
    refine (rhas_val p.live s true _ HP.out.live h0 h1 HL.out).mono ?_
    rintro e w' ⟨rfl, rfl⟩
    go_wp2
    go_ret
    rw [HE.out, HL.out, Bool.true_or]
    exact ⟨rfl, below_new _ _⟩
theorem rfree_pval (p : Pl) (s : Int) (b : Bool) (w : World) (hp : p.Ok) (h0 : -9223372036854775808 ≤ s) (h1 : s ≤ 9223372036854775807) (h : Po.taken p s = b) :
    Calls Tryd.prog 38 #[.agg (poolA p), .int .i64 s] w fun e w' => e = .returned (.bool (!b)) ∧ Below w.heap.size w w' := by
  have := rfree_pool p s w hp h0 h1
  rw [h] at this; exact this
set_option maxHeartbeats 1000000 in
set_option maxRecDepth 100000 in
theorem prnew_yes (n : Int) (w : World) (h : 1 ≤ n ∧ n ≤ 32) :
    Calls Tryd.prog 11 #[.int .i64 n] w fun e w' => e = .returned (.tuple #[.agg (poolA (Po.newP n)), .bool true]) ∧ Below w.heap.size w w' := by
  have hz := (zero_of_info zero_rpool_info).1
  have H0 := Lib.hid (pst_first zeroP 38 w)
  go_enter Tryd.func11, Tryd.ntmps11
  go_wp2_with fail
  refine (rnew_any _).mono ?_
  rintro e w1 ⟨rfl, hb1⟩
  have H1 := Lib.hid (H0.out.below hb1)
  clear hb1 H0
  go_wp2_with (first
    | (refine wpList_build rfl 38 #[(0, .tmp 11), (2, .tmp 12)] rfl #[(0, .int .i64 n), (2, .agg (ordA Od.newO))] (by simp [Act.eval]) _ (rbuild_new n _) ?_)
    | (refine store_pool rfl 38 (.tmp 2) (.tmp 13) rfl rfl w.heap.size _ (Po.newP n) 38 rfl rfl H1.out.po rpool_info ?_))
  refine bodyPost_ret (results_pool rfl _ _ w.heap.size 38 (Po.newP n) _ (.bool true) rfl rfl (poolAt_put H1.out.po) Tryd.underlying38 rfl rpool_info) rfl ⟨rfl, ?_⟩
  exact setRow_below H1.out.bel (Nat.le_refl _)
set_option maxHeartbeats 1000000 in
set_option maxRecDepth 100000 in
theorem prnew_no (n : Int) (w : World) (h : n < 1 ∨ 32 < n) (h0 : -9223372036854775808 ≤ n) (h1 : n ≤ 9223372036854775807) :
    Calls Tryd.prog 11 #[.int .i64 n] w fun e w' => e = .returned (.tuple #[.agg (poolA zeroP), .bool false]) ∧ Below w.heap.size w w' := by
  have hz := (zero_of_info zero_rpool_info).1
  have H0 := Lib.hid (pst_first zeroP 38 w)
  have hbn := rbuild_none
  go_enter Tryd.func11, Tryd.ntmps11
  by_cases hl : n < 1
  · go_wp2_with (refine store_pool rfl 38 (.tmp 2) (.tmp 10) rfl rfl w.heap.size _ zeroP 38 rfl rfl H0.out.po rpool_info ?_)
    refine bodyPost_ret (results_pool rfl _ _ w.heap.size 38 zeroP _ (.bool false) rfl rfl (poolAt_put H0.out.po) Tryd.underlying38 rfl rpool_info) rfl ⟨rfl, ?_⟩
    exact setRow_below H0.out.bel (Nat.le_refl _)
  · have hg : 32 < n := by omega
    go_wp2_with (refine store_pool rfl 38 (.tmp 2) (.tmp 10) rfl rfl w.heap.size _ zeroP 38 rfl rfl H0.out.po rpool_info ?_)
    refine bodyPost_ret (results_pool rfl _ _ w.heap.size 38 zeroP _ (.bool false) rfl rfl (poolAt_put H0.out.po) Tryd.underlying38 rfl rpool_info) rfl ⟨rfl, ?_⟩
    exact setRow_below H0.out.bel (Nat.le_refl _)
/- the document's End -/
set_option maxHeartbeats 1000000 in
set_option maxRecDepth 100000 in
theorem rend_no (p : Pl) (s : Int) (w : World) (hp : p.Ok) (h0 : -9223372036854775808 ≤ s) (h1 : s ≤ 9223372036854775807) (hs : Sm.has p.live s = false) :
    Calls Tryd.prog 33 #[.agg (poolA p), .int .i64 s] w fun e w' => e = .returned (.tuple #[.agg (poolA p), .int .i64 3]) ∧ Below w.heap.size w w' := by
  have hz := (zero_of_info zero_rpool_info).1
  have H0 := Lib.hid (qst_first p 38 w)
  have HP := Lib.hid hp
  have HS := Lib.hid hs
  have hc := H0.out.po.live_
  clear hp hs
  go_enter Tryd.func33, Tryd.ntmps33
  go_wp2_with fail
  refine (rhas_val p.live s false _ HP.out.live h0 h1 HS.out).mono ?_
  rintro e w' ⟨rfl, rfl⟩
  go_wp2_with (first
    | (refine load_pool rfl 38 (.tmp 2) rfl w.heap.size p 38 rfl _ H0.out.po Tryd.underlying38 rfl rpool_info ?_)
    | (refine store_pool rfl 38 (.tmp 4) (.tmp 11) rfl rfl (w.heap.size + 1) _ p 38 rfl rfl H0.out.re rpool_info ?_))
  refine bodyPost_ret (results_pool rfl _ _ (w.heap.size + 1) 38 p _ (.int .i64 3) rfl rfl (H0.out.tell p).re Tryd.underlying38 rfl rpool_info) rfl ⟨rfl, (H0.out.tell p).bel⟩
set_option maxHeartbeats 1000000 in
set_option maxRecDepth 100000 in
theorem rend_yes (p : Pl) (s : Int) (w : World) (hp : p.Ok) (h0 : -9223372036854775808 ≤ s) (h1 : s ≤ 9223372036854775807) (hs : Sm.has p.live s = true) :
    Calls Tryd.prog 33 #[.agg (poolA p), .int .i64 s] w fun e w' => e = .returned (.tuple #[.agg (poolA (Po.ended p s)), .int .i64 0]) ∧ Below w.heap.size w w' := by
  have hz := (zero_of_info zero_rpool_info).1
  have H0 := Lib.hid (qst_first p 38 w)
  have HP := Lib.hid hp
  have HS := Lib.hid hs
  have hc := H0.out.po.live_
  have hcf := H0.out.po.frozen 65
  clear hp hs
  go_enter Tryd.func33, Tryd.ntmps33
  go_wp2_with fail
  generalize (w.alloc (.cells (poolA p) 38)).alloc (.cells (poolA zeroP) 38) = W at *
  refine (rhas_val p.live s true _ HP.out.live h0 h1 HS.out).mono ?_
  rintro e w' ⟨rfl, rfl⟩
  go_wp2_with fail
  refine (rless_any p.live s _ HP.out.live h0 h1).mono ?_
  rintro e w' ⟨rfl, rfl⟩
  have H1 := Lib.hid (H0.out.put_live (Sm.less p.live s))
  have hd := H1.out.po.done_
  have hdf := H1.out.po.frozen 66
  go_wp2_with fail
  refine (rwith_any p.done s _ HP.out.done h0 h1).mono ?_
  rintro e w' ⟨rfl, rfl⟩
  have H2 := Lib.hid (H1.out.put_done (Sm.add p.done s))
  go_wp2_with (first
    | (refine load_pool rfl 38 (.tmp 2) rfl w.heap.size _ 38 rfl _ H2.out.po Tryd.underlying38 rfl rpool_info ?_)
    | (refine store_pool rfl 38 (.tmp 4) (.tmp 22) rfl rfl (w.heap.size + 1) _ _ 38 rfl rfl H2.out.re rpool_info ?_))
  refine bodyPost_ret (results_pool rfl _ _ (w.heap.size + 1) 38 (Po.ended p s) _ (.int .i64 0) rfl rfl (H2.out.tell _).re Tryd.underlying38 rfl rpool_info) rfl ⟨rfl, (H2.out.tell _).bel⟩
theorem rend_any (p : Pl) (s : Int) (w : World) (hp : p.Ok) (h0 : -9223372036854775808 ≤ s) (h1 : s ≤ 9223372036854775807) :
    Calls Tryd.prog 33 #[.agg (poolA p), .int .i64 s] w fun e w' => e = .returned (.tuple #[.agg (poolA (Po.endP p s).1), .int .i64 (Po.endP p s).2]) ∧ Below w.heap.size w w' := by
  unfold Po.endP
  cases hs : Sm.has p.live s
  · exact rend_no p s w hp h0 h1 hs
  · exact rend_yes p s w hp h0 h1 hs
set_option maxHeartbeats 1000000 in
set_option maxRecDepth 100000 in
theorem redge_arg (p : Pl) (a : Int) (w : World) :
    Calls Tryd.prog 32 #[.agg (poolA p), .int .i64 a, .int .i64 a] w fun e w' => e = .returned (.tuple #[.agg (poolA p), .int .i64 2]) ∧ Below w.heap.size w w' := by
  have hz := (zero_of_info zero_rpool_info).1
  have H0 := Lib.hid (qst_first p 38 w)
  go_enter Tryd.func32, Tryd.ntmps32
  go_wp2_with (first
    | (refine load_pool rfl 38 (.tmp 3) rfl w.heap.size p 38 rfl _ H0.out.po Tryd.underlying38 rfl rpool_info ?_)
    | (refine store_pool rfl 38 (.tmp 6) (.tmp 14) rfl rfl (w.heap.size + 1) _ p 38 rfl rfl H0.out.re rpool_info ?_))
  refine bodyPost_ret (results_pool rfl _ _ (w.heap.size + 1) 38 p _ (.int .i64 2) rfl rfl (H0.out.tell p).re Tryd.underlying38 rfl rpool_info) rfl ⟨rfl, (H0.out.tell p).bel⟩
set_option maxHeartbeats 2000000 in
set_option maxRecDepth 100000 in
theorem redge_none1 (p : Pl) (a b : Int) (w : World) (hp : p.Ok) (ha : -9223372036854775808 ≤ a ∧ a ≤ 9223372036854775807) (_ : -9223372036854775808 ≤ b ∧ b ≤ 9223372036854775807) (hab : a ≠ b) (h1 : Po.taken p a = false) :
    Calls Tryd.prog 32 #[.agg (poolA p), .int .i64 a, .int .i64 b] w fun e w' => e = .returned (.tuple #[.agg (poolA p), .int .i64 3]) ∧ Below w.heap.size w w' := by
  have hz := (zero_of_info zero_rpool_info).1
  have H0 := Lib.hid (qst_first p 38 w)
  have HP := Lib.hid hp
  have HA := Lib.hid h1
  clear hp h1
  go_enter Tryd.func32, Tryd.ntmps32
  go_wp2_with (refine load_pool rfl 38 (.tmp 3) rfl w.heap.size p 38 rfl _ H0.out.po Tryd.underlying38 rfl rpool_info ?_)
  refine (rfree_pval p a false _ HP.out ha.1 ha.2 HA.out).mono ?_
  rintro e w1 ⟨rfl, hb1⟩
  have H1 := Lib.hid (H0.out.below hb1)
  clear hb1 H0
  go_wp2_with (first
    | (refine load_pool rfl 38 (.tmp 3) rfl w.heap.size p 38 rfl _ H1.out.po Tryd.underlying38 rfl rpool_info ?_)
    | (refine store_pool rfl 38 (.tmp 6) (.tmp 23) rfl rfl (w.heap.size + 1) _ p 38 rfl rfl H1.out.re rpool_info ?_))
  refine bodyPost_ret (results_pool rfl _ _ (w.heap.size + 1) 38 p _ (.int .i64 3) rfl rfl (H1.out.tell p).re Tryd.underlying38 rfl rpool_info) rfl ⟨rfl, (H1.out.tell p).bel⟩
set_option maxHeartbeats 2000000 in
set_option maxRecDepth 100000 in
theorem redge_none2 (p : Pl) (a b : Int) (w : World) (hp : p.Ok) (ha : -9223372036854775808 ≤ a ∧ a ≤ 9223372036854775807) (hb : -9223372036854775808 ≤ b ∧ b ≤ 9223372036854775807) (hab : a ≠ b) (h1 : Po.taken p a = true) (h2 : Po.taken p b = false) :
    Calls Tryd.prog 32 #[.agg (poolA p), .int .i64 a, .int .i64 b] w fun e w' => e = .returned (.tuple #[.agg (poolA p), .int .i64 3]) ∧ Below w.heap.size w w' := by
  have hz := (zero_of_info zero_rpool_info).1
  have H0 := Lib.hid (qst_first p 38 w)
  have HP := Lib.hid hp
  have HA := Lib.hid h1
  have HB := Lib.hid h2
  clear hp h1 h2
  go_enter Tryd.func32, Tryd.ntmps32
  go_wp2_with (refine load_pool rfl 38 (.tmp 3) rfl w.heap.size p 38 rfl _ H0.out.po Tryd.underlying38 rfl rpool_info ?_)
  refine (rfree_pval p a true _ HP.out ha.1 ha.2 HA.out).mono ?_
  rintro e w1 ⟨rfl, hb1⟩
  have H1 := Lib.hid (H0.out.below hb1)
  clear hb1 H0
  go_wp2_with (refine load_pool rfl 38 (.tmp 3) rfl w.heap.size p 38 rfl _ H1.out.po Tryd.underlying38 rfl rpool_info ?_)
  refine (rfree_pval p b false _ HP.out hb.1 hb.2 HB.out).mono ?_
  rintro e w2 ⟨rfl, hb2⟩
  have H2 := Lib.hid (H1.out.below hb2)
  clear hb2 H1
  go_wp2_with (first
    | (refine load_pool rfl 38 (.tmp 3) rfl w.heap.size p 38 rfl _ H2.out.po Tryd.underlying38 rfl rpool_info ?_)
    | (refine store_pool rfl 38 (.tmp 6) (.tmp 23) rfl rfl (w.heap.size + 1) _ p 38 rfl rfl H2.out.re rpool_info ?_))
  refine bodyPost_ret (results_pool rfl _ _ (w.heap.size + 1) 38 p _ (.int .i64 3) rfl rfl (H2.out.tell p).re Tryd.underlying38 rfl rpool_info) rfl ⟨rfl, (H2.out.tell p).bel⟩
set_option maxHeartbeats 2000000 in
set_option maxRecDepth 100000 in
theorem redge_cycle (p : Pl) (a b : Int) (w : World) (hp : p.Ok) (ha : -9223372036854775808 ≤ a ∧ a ≤ 9223372036854775807) (hb : -9223372036854775808 ≤ b ∧ b ≤ 9223372036854775807) (hab : a ≠ b) (h1 : Po.taken p a = true) (h2 : Po.taken p b = true) (h3 : (Od.insert p.m p.o a b).2.2 = false) (hT : TabAt w) :
    Calls Tryd.prog 32 #[.agg (poolA p), .int .i64 a, .int .i64 b] w fun e w' => e = .returned (.tuple #[.agg (poolA p), .int .i64 5]) ∧ Below w.heap.size w w' := by
  have hz := (zero_of_info zero_rpool_info).1
  have H0 := Lib.hid (qst_first p 38 w)
  have HP := Lib.hid hp
  have HA := Lib.hid h1
  have HB := Lib.hid h2
  have HR := Lib.hid h3
  have HT := Lib.hid hT
  clear hp h1 h2 h3 hT
  go_enter Tryd.func32, Tryd.ntmps32
  go_wp2_with (refine load_pool rfl 38 (.tmp 3) rfl w.heap.size p 38 rfl _ H0.out.po Tryd.underlying38 rfl rpool_info ?_)
  refine (rfree_pval p a true _ HP.out ha.1 ha.2 HA.out).mono ?_
  rintro e w1 ⟨rfl, hb1⟩
  have H1 := Lib.hid (H0.out.below hb1)
  clear hb1 H0
  go_wp2_with (refine load_pool rfl 38 (.tmp 3) rfl w.heap.size p 38 rfl _ H1.out.po Tryd.underlying38 rfl rpool_info ?_)
  refine (rfree_pval p b true _ HP.out hb.1 hb.2 HB.out).mono ?_
  rintro e w2 ⟨rfl, hb2⟩
  have H2 := Lib.hid (H1.out.below hb2)
  clear hb2 H1
  go_wp2_with (first
    | (refine load_m rfl 35 (.tmp 25) rfl w.heap.size p 38 rfl _ H2.out.po Tryd.underlying35 rfl rmat_info ?_)
    | (refine load_o rfl 36 (.tmp 27) rfl w.heap.size p 38 rfl _ H2.out.po Tryd.underlying36 rfl rord_info ?_))
  refine (rinsert_any p.m p.o a b _ HP.out.m ha hb (tab_keep HT.out H2.out.bel)).mono ?_
  rintro e w3 ⟨rfl, hb3⟩
  have H3 := Lib.hid (H2.out.below hb3)
  have HW := Lib.hid (show w.heap.size + 2 ≤ w3.heap.size from H3.out.re.lt)
  clear hb3 H2
  rw [HR.out]
  generalize hX : (Od.insert p.m p.o a b).1 = X
  generalize hO : (Od.insert p.m p.o a b).2.1 = O
  have HX := Lib.hid hX
  have HO := Lib.hid hO
  clear hX hO
  go_wp2_with (first
    | (refine wpList_let2 rfl rfl 35 36 (.tmp 8) (.tmp 32) (.tmp 9) (.tmp 33) rfl rfl rfl rfl w3 X O rfl rfl rfl rfl rfl rfl rfl rmat_info rord_info ?_; intro w4 hM hO hB; have H4 := Lib.hid (H3.out.below hB); have HM := Lib.hid hM; have HO4 := Lib.hid hO; clear hM hO hB H3)
    | (refine load_pool rfl 38 (.tmp 3) rfl w.heap.size p 38 rfl _ H4.out.po Tryd.underlying38 rfl rpool_info ?_)
    | (refine store_pool rfl 38 (.tmp 6) (.tmp 37) rfl rfl (w.heap.size + 1) _ p 38 rfl rfl H4.out.re rpool_info ?_))
  refine bodyPost_ret (results_pool rfl _ _ (w.heap.size + 1) 38 p _ (.int .i64 5) rfl rfl (H4.out.tell p).re Tryd.underlying38 rfl rpool_info) rfl ⟨rfl, (H4.out.tell p).bel⟩
set_option maxHeartbeats 2000000 in
set_option maxRecDepth 100000 in
theorem redge_yes (p : Pl) (a b : Int) (w : World) (hp : p.Ok) (ha : -9223372036854775808 ≤ a ∧ a ≤ 9223372036854775807) (hb : -9223372036854775808 ≤ b ∧ b ≤ 9223372036854775807) (hab : a ≠ b) (h1 : Po.taken p a = true) (h2 : Po.taken p b = true) (h3 : (Od.insert p.m p.o a b).2.2 = true) (hT : TabAt w) :
    Calls Tryd.prog 32 #[.agg (poolA p), .int .i64 a, .int .i64 b] w fun e w' => e = .returned (.tuple #[.agg (poolA (Po.over p ((Od.insert p.m p.o a b).1, (Od.insert p.m p.o a b).2.1))), .int .i64 0]) ∧ Below w.heap.size w w' := by
  have hz := (zero_of_info zero_rpool_info).1
  have H0 := Lib.hid (qst_first p 38 w)
  have HP := Lib.hid hp
  have HA := Lib.hid h1
  have HB := Lib.hid h2
  have HR := Lib.hid h3
  have HT := Lib.hid hT
  clear hp h1 h2 h3 hT
  go_enter Tryd.func32, Tryd.ntmps32
  go_wp2_with (refine load_pool rfl 38 (.tmp 3) rfl w.heap.size p 38 rfl _ H0.out.po Tryd.underlying38 rfl rpool_info ?_)
  refine (rfree_pval p a true _ HP.out ha.1 ha.2 HA.out).mono ?_
  rintro e w1 ⟨rfl, hb1⟩
  have H1 := Lib.hid (H0.out.below hb1)
  clear hb1 H0
  go_wp2_with (refine load_pool rfl 38 (.tmp 3) rfl w.heap.size p 38 rfl _ H1.out.po Tryd.underlying38 rfl rpool_info ?_)
  refine (rfree_pval p b true _ HP.out hb.1 hb.2 HB.out).mono ?_
  rintro e w2 ⟨rfl, hb2⟩
  have H2 := Lib.hid (H1.out.below hb2)
  clear hb2 H1
  go_wp2_with (first
    | (refine load_m rfl 35 (.tmp 25) rfl w.heap.size p 38 rfl _ H2.out.po Tryd.underlying35 rfl rmat_info ?_)
    | (refine load_o rfl 36 (.tmp 27) rfl w.heap.size p 38 rfl _ H2.out.po Tryd.underlying36 rfl rord_info ?_))
  refine (rinsert_any p.m p.o a b _ HP.out.m ha hb (tab_keep HT.out H2.out.bel)).mono ?_
  rintro e w3 ⟨rfl, hb3⟩
  have H3 := Lib.hid (H2.out.below hb3)
  have HW := Lib.hid (show w.heap.size + 2 ≤ w3.heap.size from H3.out.re.lt)
  clear hb3 H2
  rw [HR.out]
  generalize hX : (Od.insert p.m p.o a b).1 = X
  generalize hO : (Od.insert p.m p.o a b).2.1 = O
  have HX := Lib.hid hX
  have HO := Lib.hid hO
  clear hX hO
  go_wp2_with (first
    | (refine wpList_let2 rfl rfl 35 36 (.tmp 8) (.tmp 32) (.tmp 9) (.tmp 33) rfl rfl rfl rfl w3 X O rfl rfl rfl rfl rfl rfl rfl rmat_info rord_info ?_; intro w4 hM hO hB; have H4 := Lib.hid (H3.out.below hB); have HM := Lib.hid hM; have HO4 := Lib.hid hO; clear hM hO hB H3)
    | (refine wpList_load_row rfl 35 (.tmp 8) rfl w3.heap.size rfl 35 (matA X) (0, 0) _ HM.out Tryd.underlying35 rfl (rmatInfo _) ?_)
    | (refine store_mQ rfl 35 (.tmp 39) (.tmp 38) rfl rfl w _ _ X 38 rfl rfl H4.out rmat_info ?_; intro w5 h5 _ k5; have H5 := Lib.hid h5; have HO5 := Lib.hid (show OrdAt w5 (w3.heap.size + 1) O 36 from (k5 _ (by have := HW.out; omega)).trans HO4.out); clear h5 k5)
    | (refine wpList_load_row rfl 36 (.tmp 9) rfl (w3.heap.size + 1) rfl 36 (ordA O) (0, 0) _ HO5.out Tryd.underlying36 rfl (rordInfo _) ?_)
    | (refine store_oQ rfl 36 (.tmp 41) (.tmp 40) rfl rfl w _ _ O 38 rfl rfl H5.out rord_info ?_; intro w6 h6 _ _; have HQ3 := Lib.hid (show QSt (Po.over p (X, O)) 38 w zeroP w6 from h6); clear h6)
    | (refine load_pool rfl 38 (.tmp 3) rfl w.heap.size (Po.over p (X, O)) 38 rfl _ HQ3.out.po Tryd.underlying38 rfl rpool_info ?_)
    | (refine store_pool rfl 38 (.tmp 6) (.tmp 42) rfl rfl (w.heap.size + 1) _ (Po.over p (X, O)) 38 rfl rfl HQ3.out.re rpool_info ?_))
  refine bodyPost_ret (results_pool rfl _ _ (w.heap.size + 1) 38 (Po.over p (X, O)) _ (.int .i64 0) rfl rfl (HQ3.out.tell _).re Tryd.underlying38 rfl rpool_info) rfl ⟨by rw [HX.out, HO.out], (HQ3.out.tell _).bel⟩
theorem redge_any (p : Pl) (a b : Int) (w : World) (hp : p.Ok) (ha : -9223372036854775808 ≤ a ∧ a ≤ 9223372036854775807) (hb : -9223372036854775808 ≤ b ∧ b ≤ 9223372036854775807) (hT : TabAt w) :
    Calls Tryd.prog 32 #[.agg (poolA p), .int .i64 a, .int .i64 b] w fun e w' => e = .returned (.tuple #[.agg (poolA (Po.edge p a b).1), .int .i64 (Po.edge p a b).2]) ∧ Below w.heap.size w w' := by
  unfold Po.edge
  by_cases hab : a = b
  · subst hab; rw [if_pos rfl]; exact redge_arg p a w
  rw [if_neg hab]
  cases h1 : Po.taken p a
  · rw [if_pos (.inl rfl)]; exact redge_none1 p a b w hp ha hb hab h1
  cases h2 : Po.taken p b
  · rw [if_pos (.inr rfl)]; exact redge_none2 p a b w hp ha hb hab h1 h2
  rw [if_neg (by simp)]
  cases h3 : (Od.insert p.m p.o a b).2.2
  · exact redge_cycle p a b w hp ha hb hab h1 h2 h3 hT
  · exact redge_yes p a b w hp ha hb hab h1 h2 h3 hT
end Go.Proofs.YtakoceablbgchaaDoor
namespace Go.Proofs.YtakoceablbgchaaDoor
open Go.RowKit
attribute [local go_sem ↓] Go.wp_at_zero Go.wp_at_succ
def doneTo (x k : Nat) : List Nat := (List.range k).filter fun i => x.testBit i
theorem doneTo_no {x k : Nat} (h : x.testBit k = false) : doneTo x (k + 1) = doneTo x k := by unfold doneTo; rw [List.range_succ, List.filter_append]; simp [h]
theorem doneTo_yes {x k : Nat} (h : x.testBit k = true) : doneTo x (k + 1) = doneTo x k ++ [k] := by unfold doneTo; rw [List.range_succ, List.filter_append]; simp [h]
theorem doneTo_all {x : Nat} (h : x < 4294967296) : doneTo x 32 = Sm.items x := by
  have key : ∀ k, 32 ≤ k → doneTo x k = doneTo x 32 := by
    intro k hk
    induction k with
    | zero => omega
    | succ k ih =>
      rcases Nat.lt_or_ge k 32 with h1 | h1
      · obtain rfl : k = 31 := by omega
        rfl
      · rw [doneTo_no, ih h1]
        cases hb : x.testBit k
        · rfl
        · exact absurd (Mm.test32 h hb) (by omega)
  exact (key 64 (by decide)).symm
noncomputable def begR (p : Pl) (s k : Nat) : Pl := Po.over (Po.opened p s) (Po.insAll s (doneTo p.done k) (p.m, p.o))
theorem begR_ok {p : Pl} (hp : p.Ok) (s k : Nat) : Mm.Ok (begR p s k).m := by
  have key : ∀ (l : List Nat) (x : Mm.Gr × Od.O), Mm.Ok x.1 → Mm.Ok (Po.insAll s l x).1 := by
    intro l
    induction l with
    | nil => intro x h1; exact h1
    | cons c r ih => intro x h1; exact ih _ (Od.insert_ok _ _ h1)
  exact key _ _ hp.m
theorem begR_no {p : Pl} {s k : Nat} (h : p.done.testBit k = false) : begR p s (k + 1) = begR p s k := by unfold begR; rw [doneTo_no h]
theorem begR_yes {p : Pl} {s k : Nat} (h : p.done.testBit k = true) :
    begR p s (k + 1) = { begR p s k with m := (Od.insert (begR p s k).m (begR p s k).o (k : Nat) (s : Nat)).1, o := (Od.insert (begR p s k).m (begR p s k).o (k : Nat) (s : Nat)).2.1 } := by
  unfold begR
  rw [doneTo_yes h, Po.insAll_snoc]
  rfl
def RBegRel (p : Pl) (w : World) (i : Value) (wr : World) : Prop :=
  ∃ k : Nat, k ≤ 32 ∧ i = .int .i64 k ∧ (∀ j, j < k → Po.freeAt p j = false) ∧ QSt p 38 w zeroP wr
def RBegIn (p : Pl) (s : Nat) (w : World) (i : Value) (wr : World) : Prop :=
  ∃ k : Nat, k ≤ 32 ∧ i = .int .i64 k ∧ QSt (begR p s k) 38 w zeroP wr
theorem rhas_nat_val (x k : Nat) (b : Bool) (w : World) (hx : x < 18446744073709551616) (hk : k < 64) (h : x.testBit k = b) :
    Calls Tryd.prog 39 #[.int .u64 x, .int .i64 (k : Nat)] w fun e w' => e = .returned (.bool b) ∧ w = w' :=
  rhas_val x (k : Nat) b w hx (by omega) (by omega) (by rw [Sm.has_nat _ hx]; exact h)
set_option maxHeartbeats 4000000 in
set_option maxRecDepth 100000 in
theorem rbegin_any (p : Pl) (w : World) (hp : p.Ok) (hsz : p.size ≤ 32) (hd : p.done < 4294967296) (hc : p.count < 9223372036854775807) (hT : TabAt w) :
    Calls Tryd.prog 36 #[.agg (poolA p)] w fun e w' => e = .returned (.tuple #[.agg (poolA (Po.begin p).1), .int .i64 (Po.begin p).2.1, .int .i64 (Po.begin p).2.2]) ∧ Below w.heap.size w w' := by
  have hz := (zero_of_info zero_rpool_info).1
  have H0 := Lib.hid (qst_first p 38 w)
  have HP := Lib.hid hp
  have HT := Lib.hid hT
  have HD := Lib.hid hd
  have hc0 := hp.count.1
  have hs0 := hp.size.1
  clear hp hT hd
  go_enter Tryd.func36, Tryd.ntmps36
  go_wp2
  go_loopw [5] (RBegRel p w) (fun i _ => 33 - (intOf i).toNat)
  case atStart => exact ⟨0, by omega, rfl, fun j hj => by omega, H0.out⟩
  case round =>
    obtain ⟨k, hk, rfl, hfr, hst⟩ := hrel
    have HF := Lib.hid hfr
    have HS := Lib.hid hst
    have c0 := hst.po.size_
    clear hfr hst
    by_cases hlt : (k : Int) < p.size
    · have hk32 : k < 32 := by omega
      cases ht : Po.taken p (k : Nat)
      · have HF2 := Lib.hid (show Po.ff p = some k from Po.ff_some hk32 (by rw [free_has HP.out.live HP.out.done hlt]; unfold Po.taken at ht; rw [ht]; rfl) HF.out)
        have HTk := Lib.hid ht
        clear ht
        go_wp2_with (refine load_pool rfl 38 (.tmp 1) rfl w.heap.size p 38 rfl _ HS.out.po Tryd.underlying38 rfl rpool_info ?_)
        refine (rfree_pval p (k : Nat) false _ HP.out (by omega) (by omega) HTk.out).mono ?_
        rintro e w1 ⟨rfl, hb1⟩
        have H1 := Lib.hid (HS.out.below hb1)
        clear hb1 HS c0
        have c1 := H1.out.po.live_
        have f1 := H1.out.po.frozen 65
        have c1' := H1.out.po.done_
        go_wp2_with fail
        refine (rwith_any p.live (k : Nat) _ HP.out.live (by omega) (by omega)).mono ?_
        rintro e w' ⟨rfl, rfl⟩
        have H2 := Lib.hid (H1.out.put_live (Sm.add p.live (k : Nat)))
        have c2 := H2.out.po.count_
        have f2 := H2.out.po.frozen 99
        have H3 := Lib.hid (H2.out.put_count (p.count + 1))
        have c3 := H3.out.po.count_
        have f3 := H3.out.po.frozen (67 + k)
        have c3' := H3.out.po.id_ k hk32
        have H4 := Lib.hid (H3.out.put_id k hk32 (p.count + 1))
        go_wp2
        generalize ((w1.setCell ⟨w.heap.size, 65, none⟩ (.int .u64 (Sm.add p.live (k : Nat) : Nat))).setCell ⟨w.heap.size, 99, none⟩ (.int .i64 (p.count + 1))).setCell ⟨w.heap.size, 67 + k, none⟩ (.int .i64 (p.count + 1)) = w2 at *
        have H5 := Lib.hid (show QSt (begR p k 0) 38 w zeroP w2 from H4.out)
        clear c1 f1 c1' c2 f2 c3 f3 c3' H1 H2 H3 H4
        go_loopw [7] (RBegIn p k w) (fun i _ => 32 - (intOf i).toNat)
        case atStart => exact ⟨0, by omega, rfl, H5.out⟩
        case round =>
          obtain ⟨j, hj, rfl, hst⟩ := hrel
          have HS := Lib.hid hst
          clear hst
          by_cases hjl : j < 32
          · cases hdj : p.done.testBit j
            · have HE := Lib.hid (begR_no (s := k) hdj)
              have HDJ := Lib.hid hdj
              clear hdj
              go_wp2_with fail
              refine (rhas_nat_val p.done j false _ HP.out.done (by omega) HDJ.out).mono ?_
              rintro e w' ⟨rfl, rfl⟩
              go_wp2
              refine ⟨⟨j + 1, by omega, by go_num, ?_⟩, by simp [intOf]; omega⟩
              rw [HE.out]; exact HS.out
            · have HE := Lib.hid (begR_yes (s := k) hdj)
              have HDJ := Lib.hid hdj
              have HK := Lib.hid (begR_ok HP.out k j)
              clear hdj
              go_wp2_with fail
              refine (rhas_nat_val p.done j true _ HP.out.done (by omega) HDJ.out).mono ?_
              rintro e w' ⟨rfl, rfl⟩
              go_wp2_with (first
                | (refine load_m rfl 35 (.tmp 45) rfl w.heap.size _ 38 rfl _ HS.out.po Tryd.underlying35 rfl rmat_info ?_)
                | (refine load_o rfl 36 (.tmp 47) rfl w.heap.size _ 38 rfl _ HS.out.po Tryd.underlying36 rfl rord_info ?_))
              refine (rinsert_any _ _ (j : Nat) (k : Nat) _ HK.out (by omega) (by omega) (tab_keep HT.out HS.out.bel)).mono ?_
              rintro e w4 ⟨rfl, hb4⟩
              have HS4 := Lib.hid (HS.out.below hb4)
              have HW := Lib.hid (show w.heap.size + 2 ≤ w4.heap.size from HS4.out.re.lt)
              clear hb4 HS
              generalize hX : (Od.insert (begR p k j).m (begR p k j).o (j : Nat) (k : Nat)).1 = X at *
              generalize hO : (Od.insert (begR p k j).m (begR p k j).o (j : Nat) (k : Nat)).2.1 = O at *
              generalize (Od.insert (begR p k j).m (begR p k j).o (j : Nat) (k : Nat)).2.2 = b at *
              clear hX hO
              go_wp2_with (first
                | (refine wpList_let2 rfl rfl 35 36 (.tmp 8) (.tmp 52) (.tmp 9) (.tmp 53) rfl rfl rfl rfl w4 X O rfl rfl rfl rfl rfl rfl rfl rmat_info rord_info ?_; intro w5 hM hO hB; have H5' := Lib.hid (HS4.out.below hB); have HM := Lib.hid hM; have HO := Lib.hid hO; clear hM hO hB HS4)
                | (refine wpList_load_row rfl 35 (.tmp 8) rfl w4.heap.size rfl 35 (matA X) (0, 0) _ HM.out Tryd.underlying35 rfl (rmatInfo _) ?_)
                | (refine store_mQ rfl 35 (.tmp 56) (.tmp 55) rfl rfl w _ _ X 38 rfl rfl H5'.out rmat_info ?_; intro w6 h6 _ k6; have H6 := Lib.hid h6; have HO6 := Lib.hid (show OrdAt w6 (w4.heap.size + 1) O 36 from (k6 _ (by have := HW.out; omega)).trans HO.out); clear h6 k6)
                | (refine wpList_load_row rfl 36 (.tmp 9) rfl (w4.heap.size + 1) rfl 36 (ordA O) (0, 0) _ HO6.out Tryd.underlying36 rfl (rordInfo _) ?_)
                | (refine store_oQ rfl 36 (.tmp 58) (.tmp 57) rfl rfl w _ _ O 38 rfl rfl H6.out rord_info ?_; intro w7 h7 _ _; have H7 := Lib.hid h7; clear h7))
              refine ⟨⟨j + 1, by omega, by go_num, ?_⟩, by simp [intOf]; omega⟩
              rw [HE.out]; exact H7.out
          · obtain rfl : j = 32 := by omega
            have HQ := Lib.hid (show QSt (Po.begun p k) 38 w zeroP wr by
              have e : begR p k 32 = Po.begun p k := by unfold begR; rw [doneTo_all HD.out]; rfl
              rw [← e]; exact HS.out)
            have HB := Lib.hid (show Po.begin p = (Po.begun p k, (k : Int), 0) by unfold Po.begin; rw [HF2.out])
            clear HS
            go_wp2_with (first
              | (refine load_pool rfl 38 (.tmp 1) rfl w.heap.size (Po.begun p k) 38 rfl _ HQ.out.po Tryd.underlying38 rfl rpool_info ?_)
              | (refine store_pool rfl 38 (.tmp 2) (.tmp 59) rfl rfl (w.heap.size + 1) _ (Po.begun p k) 38 rfl rfl HQ.out.re rpool_info ?_))
            refine bodyPost_ret (results_pool2 rfl _ _ (w.heap.size + 1) 38 (Po.begun p k) _ (.int .i64 (k : Nat)) (.int .i64 0) rfl rfl rfl (HQ.out.tell _).re Tryd.underlying38 rfl rpool_info) rfl ⟨by rw [HB.out], (HQ.out.tell _).bel⟩
      · have HFA := Lib.hid (show Po.freeAt p k = false by rw [free_has HP.out.live HP.out.done hlt]; unfold Po.taken at ht; rw [ht]; rfl)
        have HTk := Lib.hid ht
        clear ht
        go_wp2_with (refine load_pool rfl 38 (.tmp 1) rfl w.heap.size p 38 rfl _ HS.out.po Tryd.underlying38 rfl rpool_info ?_)
        refine (rfree_pval p (k : Nat) true _ HP.out (by omega) (by omega) HTk.out).mono ?_
        rintro e w1 ⟨rfl, hb1⟩
        have H1 := Lib.hid (HS.out.below hb1)
        clear hb1 HS c0
        go_wp2
        refine ⟨⟨k + 1, by omega, by go_num, fun j hj => ?_, H1.out⟩, by simp [intOf]; omega⟩
        rcases Nat.lt_or_ge j k with h | h
        · exact HF.out j h
        · obtain rfl : j = k := by omega
          exact HFA.out
    · have HB := Lib.hid (show Po.begin p = (p, 0, 4) by
        unfold Po.begin
        rw [Po.ff_none fun j _ => ?_]
        rcases Nat.lt_or_ge j k with h | h
        · exact HF.out j h
        · exact free_big (by omega))
      go_wp2_with (first
        | (refine load_pool rfl 38 (.tmp 1) rfl w.heap.size p 38 rfl _ HS.out.po Tryd.underlying38 rfl rpool_info ?_)
        | (refine store_pool rfl 38 (.tmp 2) (.tmp 61) rfl rfl (w.heap.size + 1) _ p 38 rfl rfl HS.out.re rpool_info ?_))
      refine bodyPost_ret (results_pool2 rfl _ _ (w.heap.size + 1) 38 p _ (.int .i64 0) (.int .i64 4) rfl rfl rfl (HS.out.tell _).re Tryd.underlying38 rfl rpool_info) rfl ⟨by rw [HB.out], (HS.out.tell _).bel⟩
end Go.Proofs.YtakoceablbgchaaDoor
namespace Go.Proofs.YtakoceablbgchaaDoor
open Go.RowKit
attribute [local go_sem ↓] Go.wp_at_zero Go.wp_at_succ
theorem yields_mid {ops : Array Oper} {S : World → Prop} {op : Oper} {a : Act} (hw : Region.wanted op (yielded ops a.tmps) = true) (ty : TypeId) (x : Operand) (ho : op.op = .load ty x)
    (b o : Nat) (hx : a.eval x = .pointer (some ⟨b, o, none⟩)) (cs : Array Value) (d : TypeDesc) (hS : ∀ w, S w → w.rangeAt b o cs.toList)
    (hu : Tryd.prog.underlying ty = some d) (hd : d.isRow = true) (hi : (Tryd.prog.info? ty).map (·.size) = some cs.size) : YieldsIf Tryd.prog ops S op (.agg cs) a := by
  have := yieldsIf_load_mid (P := Tryd.prog) hw ty x ho b o hx cs.toList d hS hu hd (by simpa using hi)
  simpa using this
structure SrcSt (p : Pl) (w : World) (g : Nat) (W : World) : Prop where
  po : PoolAt W w.heap.size p 38
  tu : MatAt W g (turn p.m) 35
  bel : Below w.heap.size w W
theorem SrcSt.below {p : Pl} {w : World} {g : Nat} {W W' : World} (h : SrcSt p w g W) (hb : Below W.heap.size W W') : SrcSt p w g W' := ⟨h.po.below hb, h.tu.below hb, h.bel.trans (hb.mono h.bel.size)⟩
theorem SrcSt.drew {p : Pl} {w : World} {g : Nat} {W : World} (h : SrcSt p w g W) : SrcSt p w g W.drew := h.below (below_drew W)
theorem routs_val (m : Mm.Gr) (a x : Nat) (w : World) (hm : Mm.Ok m) (ha : a < 32) (h : Mm.outs m a = x) :
    Calls Tryd.prog 60 #[.agg (matA m), .int .i64 (a : Nat)] w fun e w' => e = .returned (.int .u64 (x : Nat)) ∧ Below w.heap.size w w' := by
  have := routs_in m a w hm ha
  rw [h] at this; exact this
def SrcRel (p : Pl) (g : Nat) (w : World) (f i : Value) (wr : World) : Prop :=
  ∃ k : Nat, k ≤ 32 ∧ i = .int .i64 k ∧ f = .int .i64 (goV (Po.bestTo p k)) ∧ SrcSt p w g wr
set_option maxHeartbeats 4000000 in
set_option maxRecDepth 100000 in
theorem source_any (p : Pl) (w : World) (hp : p.Ok) :
    Calls Tryd.prog 58 #[.agg (poolA p)] w fun e w' => e = .returned (.int .i64 (goV (Po.next p))) ∧ Below w.heap.size w w' := by
  have H0 := Lib.hid (pst_first p 38 w)
  have HP := Lib.hid hp
  have HT := Lib.hid (turn_ok p.m)
  clear hp
  go_enter Tryd.func58, Tryd.ntmps58
  go_wp2_with (refine load_m rfl 35 (.tmp 6) rfl w.heap.size p 38 rfl _ H0.out.po Tryd.underlying35 rfl rmat_info ?_)
  refine (turn_any p.m _ HP.out.m).mono ?_
  rintro e w1 ⟨rfl, hb1⟩
  have H1 := Lib.hid (H0.out.below hb1)
  clear hb1 H0
  go_wp2_with (refine wpList_store_row rfl 35 (.tmp 4) (.tmp 8) rfl w1.heap.size (matA (turn p.m)) rfl rfl 35 _ (heap_alloc_new _ _) (rmatInfo _) (by rw [matA_size]; rfl) (matA_one _) ?_; rw [World.setRow_alloc_new])
  have H2 := Lib.hid (show SrcSt p w w1.heap.size (w1.alloc (.cells (matA (turn p.m)) 35)) from ⟨H1.out.po.alloc _, matAt_new _ _ _, H1.out.bel.alloc H1.out.bel.size _⟩)
  go_loopw [3, 5] (SrcRel p w1.heap.size w) (fun _ i _ => 32 - (intOf i).toNat)
  case atStart => exact ⟨0, by omega, rfl, rfl, H2.out⟩
  case round =>
    obtain ⟨k, hk, rfl, rfl, hst⟩ := hrel
    have HS := Lib.hid hst
    clear hst
    by_cases hlt : k < 32
    · cases hd : p.done.testBit k
      · have HD := Lib.hid hd
        have HG := Lib.hid (best_no (show Po.goable p k = false by unfold Po.goable; rw [hd]; rfl))
        generalize hB : goV (Po.bestTo p k) = B at *
        clear hd
        go_wp2
        refine wp_region_noPanic ?_
        refine region_start (S := SrcSt p w w1.heap.size) 25 rfl (by kernel_rfl) (HS.out.drew) (fun hHeld => ?_)
        refine take_at 0 13 (.pointer (some ⟨w.heap.size, 66, none⟩)) rfl rfl (by kernel_rfl) (by kernel_rfl) (by kernel_rfl) (fun _ _ _ h => h) (Or.inl ⟨by rfl, by intro W hW; clear hW; go_simp; try (intro h; omega)⟩) hHeld ?_
        simp only [put_laws]
        refine take_at 1 14 (.int .u64 (p.done : Nat)) rfl rfl (by kernel_rfl) (by kernel_rfl) (by kernel_rfl) (fun _ _ _ h => h) (Or.inl ⟨by rfl, by intro W hW; have hc := hW.po.done_; clear hW; go_simp⟩) hHeld ?_
        simp only [put_laws]
        refine take_at 2 15 (.int .i64 (k : Nat)) rfl rfl (by kernel_rfl) (by kernel_rfl) (by kernel_rfl) (fun _ _ _ h => h) (Or.inl ⟨by rfl, by intro W hW; clear hW; go_simp⟩) hHeld ?_
        simp only [put_laws]
        refine wpAnyH_ready (rs := [3]) (by kernel_rfl) (by simp) ?_
        refine AllReadyH.cons rfl (fun K hK => ?_) AllReadyH.nil
        go_simp
        refine (rhas_nat_val p.done k false _ HP.out.done (by omega) HD.out).mono ?_
        rintro e w' ⟨rfl, rfl⟩
        try go_simp
        refine hK.out _ _ hHeld (fun hHeld => ?_)
        clear hK K
        refine take_at 4 17 (.bool false) rfl rfl (by kernel_rfl) (by kernel_rfl) (by kernel_rfl) (fun _ _ _ h => h) (Or.inl ⟨by rfl, by intro W hW; clear hW; go_simp⟩) hHeld ?_
        simp only [put_laws]
        refine take_at 5 18 undef rfl rfl (by kernel_rfl) (by kernel_rfl) (by kernel_rfl) (fun _ _ _ h => h) (Or.inr ⟨by rfl, rfl⟩) hHeld ?_
        simp only [put_laws]
        refine take_at 6 19 undef rfl rfl (by kernel_rfl) (by kernel_rfl) (by kernel_rfl) (fun _ _ _ h => h) (Or.inr ⟨by rfl, rfl⟩) hHeld ?_
        simp only [put_laws]
        refine take_at 7 20 undef rfl rfl (by kernel_rfl) (by kernel_rfl) (by kernel_rfl) (fun _ _ _ h => h) (Or.inr ⟨by rfl, rfl⟩) hHeld ?_
        simp only [put_laws]
        refine take_at 8 21 undef rfl rfl (by kernel_rfl) (by kernel_rfl) (by kernel_rfl) (fun _ _ _ h => h) (Or.inr ⟨by rfl, rfl⟩) hHeld ?_
        simp only [put_laws]
        refine take_at 9 22 (.bool false) rfl rfl (by kernel_rfl) (by kernel_rfl) (by kernel_rfl) (fun _ _ _ h => h) (Or.inl ⟨by rfl, by intro W hW; clear hW; go_simp⟩) hHeld ?_
        simp only [put_laws]
        refine take_at 10 23 (.bool false) rfl rfl (by kernel_rfl) (by kernel_rfl) (by kernel_rfl) (fun _ _ _ h => h) (Or.inl ⟨by rfl, by intro W hW; clear hW; go_simp⟩) hHeld ?_
        simp only [put_laws]
        refine take_at 11 24 undef rfl rfl (by kernel_rfl) (by kernel_rfl) (by kernel_rfl) (fun _ _ _ h => h) (Or.inr ⟨by rfl, rfl⟩) hHeld ?_
        simp only [put_laws]
        refine take_at 12 25 undef rfl rfl (by kernel_rfl) (by kernel_rfl) (by kernel_rfl) (fun _ _ _ h => h) (Or.inr ⟨by rfl, rfl⟩) hHeld ?_
        simp only [put_laws]
        refine take_at 13 26 undef rfl rfl (by kernel_rfl) (by kernel_rfl) (by kernel_rfl) (fun _ _ _ h => h) (Or.inr ⟨by rfl, rfl⟩) hHeld ?_
        simp only [put_laws]
        refine take_at 14 27 undef rfl rfl (by kernel_rfl) (by kernel_rfl) (by kernel_rfl) (fun _ _ _ h => h) (Or.inr ⟨by rfl, rfl⟩) hHeld ?_
        simp only [put_laws]
        refine take_at 15 28 undef rfl rfl (by kernel_rfl) (by kernel_rfl) (by kernel_rfl) (fun _ _ _ h => h) (Or.inr ⟨by rfl, rfl⟩) hHeld ?_
        simp only [put_laws]
        refine take_at 16 29 undef rfl rfl (by kernel_rfl) (by kernel_rfl) (by kernel_rfl) (fun _ _ _ h => h) (Or.inr ⟨by rfl, rfl⟩) hHeld ?_
        simp only [put_laws]
        refine take_at 17 30 undef rfl rfl (by kernel_rfl) (by kernel_rfl) (by kernel_rfl) (fun _ _ _ h => h) (Or.inr ⟨by rfl, rfl⟩) hHeld ?_
        simp only [put_laws]
        refine take_at 18 31 undef rfl rfl (by kernel_rfl) (by kernel_rfl) (by kernel_rfl) (fun _ _ _ h => h) (Or.inr ⟨by rfl, rfl⟩) hHeld ?_
        simp only [put_laws]
        refine take_at 19 32 undef rfl rfl (by kernel_rfl) (by kernel_rfl) (by kernel_rfl) (fun _ _ _ h => h) (Or.inr ⟨by rfl, rfl⟩) hHeld ?_
        simp only [put_laws]
        refine take_at 20 33 undef rfl rfl (by kernel_rfl) (by kernel_rfl) (by kernel_rfl) (fun _ _ _ h => h) (Or.inr ⟨by rfl, rfl⟩) hHeld ?_
        simp only [put_laws]
        refine take_at 21 34 undef rfl rfl (by kernel_rfl) (by kernel_rfl) (by kernel_rfl) (fun _ _ _ h => h) (Or.inr ⟨by rfl, rfl⟩) hHeld ?_
        simp only [put_laws]
        refine take_at 22 35 undef rfl rfl (by kernel_rfl) (by kernel_rfl) (by kernel_rfl) (fun _ _ _ h => h) (Or.inr ⟨by rfl, rfl⟩) hHeld ?_
        simp only [put_laws]
        refine take_at 23 36 undef rfl rfl (by kernel_rfl) (by kernel_rfl) (by kernel_rfl) (fun _ _ _ h => h) (Or.inr ⟨by rfl, rfl⟩) hHeld ?_
        simp only [put_laws]
        refine take_at 24 37 (.bool false) rfl rfl (by kernel_rfl) (by kernel_rfl) (by kernel_rfl) (fun _ _ _ h => h) (Or.inl ⟨by rfl, by intro W hW; clear hW; go_simp⟩) hHeld ?_
        simp only [put_laws]
        refine wpAnyH_done (by kernel_rfl) ?_ _
        refine NoPanic.normal ?_
        go_wp2
        exact ⟨⟨k + 1, by omega, by go_num, by rw [HG.out, hB], hHeld⟩, by simp [intOf]; omega⟩
      · have HD := Lib.hid hd
        clear hd
        by_cases hi : Mm.ins p.m k = 0
        · have HG := Lib.hid (show Po.goable p k = true by unfold Po.goable; rw [HD.out, hi]; rfl)
          have HI0 := Lib.hid ((turn_outs p.m k).trans hi)
          clear hi
          cases hb : Po.bestTo p k with
          | none =>
            have HB := Lib.hid (best_yes HG.out (show Po.better p k (Po.bestTo p k) = true by rw [hb]; rfl))
            clear hb
            simp only [goV]
            go_wp2
            refine wp_region_noPanic ?_
            refine region_start (S := SrcSt p w w1.heap.size) 25 rfl (by kernel_rfl) (HS.out.drew) (fun hHeld => ?_)
            refine take_at 0 13 (.pointer (some ⟨w.heap.size, 66, none⟩)) rfl rfl (by kernel_rfl) (by kernel_rfl) (by kernel_rfl) (fun _ _ _ h => h) (Or.inl ⟨by rfl, by intro W hW; clear hW; go_simp; try (intro h; omega)⟩) hHeld ?_
            simp only [put_laws]
            refine take_at 1 14 (.int .u64 (p.done : Nat)) rfl rfl (by kernel_rfl) (by kernel_rfl) (by kernel_rfl) (fun _ _ _ h => h) (Or.inl ⟨by rfl, by intro W hW; have hc := hW.po.done_; clear hW; go_simp⟩) hHeld ?_
            simp only [put_laws]
            refine take_at 2 15 (.int .i64 (k : Nat)) rfl rfl (by kernel_rfl) (by kernel_rfl) (by kernel_rfl) (fun _ _ _ h => h) (Or.inl ⟨by rfl, by intro W hW; clear hW; go_simp⟩) hHeld ?_
            simp only [put_laws]
            refine wpAnyH_ready (rs := [3]) (by kernel_rfl) (by simp) ?_
            refine AllReadyH.cons rfl (fun K hK => ?_) AllReadyH.nil
            go_simp
            refine (rhas_nat_val p.done k true _ HP.out.done (by omega) HD.out).mono ?_
            rintro e w' ⟨rfl, rfl⟩
            try go_simp
            refine hK.out _ _ hHeld (fun hHeld => ?_)
            clear hK K
            refine take_at 4 17 (.bool true) rfl rfl (by kernel_rfl) (by kernel_rfl) (by kernel_rfl) (fun _ _ _ h => h) (Or.inl ⟨by rfl, by intro W hW; clear hW; go_simp⟩) hHeld ?_
            simp only [put_laws]
            refine take_at 5 18 (.agg (matA (turn p.m))) rfl rfl (by kernel_rfl) (by kernel_rfl) (by kernel_rfl) (fun _ _ _ h => h) (yields_row (by rfl) 35 (.tmp 4) rfl (w1.heap.size) rfl 35 (matA (turn p.m)) (fun W h => h.tu) Tryd.underlying35 (rmatInfo _)) hHeld ?_
            simp only [put_laws]
            refine take_at 6 19 (.int .i64 (k : Nat)) rfl rfl (by kernel_rfl) (by kernel_rfl) (by kernel_rfl) (fun _ _ _ h => h) (Or.inl ⟨by rfl, by intro W hW; clear hW; go_simp⟩) hHeld ?_
            simp only [put_laws]
            refine wpAnyH_ready (rs := [7]) (by kernel_rfl) (by simp) ?_
            refine AllReadyH.cons rfl (fun K hK => ?_) AllReadyH.nil
            go_simp
            refine (routs_val (turn p.m) k 0 _ HT.out hlt HI0.out).mono ?_
            rintro e w5 ⟨rfl, hb5⟩
            try go_simp
            have hHeld := hHeld.below hb5
            refine hK.out _ _ hHeld (fun hHeld => ?_)
            clear hK K
            refine take_at 8 21 (.bool true) rfl rfl (by kernel_rfl) (by kernel_rfl) (by kernel_rfl) (fun _ _ _ h => h) (Or.inl ⟨by rfl, by intro W hW; clear hW; go_simp⟩) hHeld ?_
            simp only [put_laws]
            refine take_at 9 22 (.bool true) rfl rfl (by kernel_rfl) (by kernel_rfl) (by kernel_rfl) (fun _ _ _ h => h) (Or.inl ⟨by rfl, by intro W hW; clear hW; go_simp⟩) hHeld ?_
            simp only [put_laws]
            refine take_at 10 23 (.bool true) rfl rfl (by kernel_rfl) (by kernel_rfl) (by kernel_rfl) (fun _ _ _ h => h) (Or.inl ⟨by rfl, by intro W hW; clear hW; go_simp⟩) hHeld ?_
            simp only [put_laws]
            refine take_at 11 24 (.int .i64 (-1)) rfl rfl (by kernel_rfl) (by kernel_rfl) (by kernel_rfl) (fun _ _ _ h => h) (Or.inl ⟨by rfl, by intro W hW; clear hW; go_simp⟩) hHeld ?_
            simp only [put_laws]
            refine take_at 12 25 (.bool true) rfl rfl (by kernel_rfl) (by kernel_rfl) (by kernel_rfl) (fun _ _ _ h => h) (Or.inl ⟨by rfl, by intro W hW; clear hW; go_simp⟩) hHeld ?_
            simp only [put_laws]
            refine take_at 13 26 (.bool true) rfl rfl (by kernel_rfl) (by kernel_rfl) (by kernel_rfl) (fun _ _ _ h => h) (Or.inl ⟨by rfl, by intro W hW; clear hW; go_simp⟩) hHeld ?_
            simp only [put_laws]
            refine take_at 14 27 undef rfl rfl (by kernel_rfl) (by kernel_rfl) (by kernel_rfl) (fun _ _ _ h => h) (Or.inr ⟨by rfl, rfl⟩) hHeld ?_
            simp only [put_laws]
            refine take_at 15 28 undef rfl rfl (by kernel_rfl) (by kernel_rfl) (by kernel_rfl) (fun _ _ _ h => h) (Or.inr ⟨by rfl, rfl⟩) hHeld ?_
            simp only [put_laws]
            refine take_at 16 29 undef rfl rfl (by kernel_rfl) (by kernel_rfl) (by kernel_rfl) (fun _ _ _ h => h) (Or.inr ⟨by rfl, rfl⟩) hHeld ?_
            simp only [put_laws]
            refine take_at 17 30 undef rfl rfl (by kernel_rfl) (by kernel_rfl) (by kernel_rfl) (fun _ _ _ h => h) (Or.inr ⟨by rfl, rfl⟩) hHeld ?_
            simp only [put_laws]
            refine take_at 18 31 undef rfl rfl (by kernel_rfl) (by kernel_rfl) (by kernel_rfl) (fun _ _ _ h => h) (Or.inr ⟨by rfl, rfl⟩) hHeld ?_
            simp only [put_laws]
            refine take_at 19 32 undef rfl rfl (by kernel_rfl) (by kernel_rfl) (by kernel_rfl) (fun _ _ _ h => h) (Or.inr ⟨by rfl, rfl⟩) hHeld ?_
            simp only [put_laws]
            refine take_at 20 33 undef rfl rfl (by kernel_rfl) (by kernel_rfl) (by kernel_rfl) (fun _ _ _ h => h) (Or.inr ⟨by rfl, rfl⟩) hHeld ?_
            simp only [put_laws]
            refine take_at 21 34 undef rfl rfl (by kernel_rfl) (by kernel_rfl) (by kernel_rfl) (fun _ _ _ h => h) (Or.inr ⟨by rfl, rfl⟩) hHeld ?_
            simp only [put_laws]
            refine take_at 22 35 undef rfl rfl (by kernel_rfl) (by kernel_rfl) (by kernel_rfl) (fun _ _ _ h => h) (Or.inr ⟨by rfl, rfl⟩) hHeld ?_
            simp only [put_laws]
            refine take_at 23 36 (.bool true) rfl rfl (by kernel_rfl) (by kernel_rfl) (by kernel_rfl) (fun _ _ _ h => h) (Or.inl ⟨by rfl, by intro W hW; clear hW; go_simp⟩) hHeld ?_
            simp only [put_laws]
            refine take_at 24 37 (.bool true) rfl rfl (by kernel_rfl) (by kernel_rfl) (by kernel_rfl) (fun _ _ _ h => h) (Or.inl ⟨by rfl, by intro W hW; clear hW; go_simp⟩) hHeld ?_
            simp only [put_laws]
            refine wpAnyH_done (by kernel_rfl) ?_ _
            refine NoPanic.normal ?_
            go_wp2
            exact ⟨⟨k + 1, by omega, by go_num, by rw [HB.out]; rfl, hHeld⟩, by simp [intOf]; omega⟩
          | some f =>
            have hf : f < 32 := by have := (Po.bestTo_spec hb).1; omega
            by_cases hlt2 : p.ids k < p.ids f
            · have HB := Lib.hid (best_yes HG.out (show Po.better p k (Po.bestTo p k) = true by rw [hb]; simp [Po.better, hlt2]))
              clear hb
              simp only [goV]
              go_wp2
              refine wp_region_noPanic ?_
              refine region_start (S := SrcSt p w w1.heap.size) 25 rfl (by kernel_rfl) (HS.out.drew) (fun hHeld => ?_)
              refine take_at 0 13 (.pointer (some ⟨w.heap.size, 66, none⟩)) rfl rfl (by kernel_rfl) (by kernel_rfl) (by kernel_rfl) (fun _ _ _ h => h) (Or.inl ⟨by rfl, by intro W hW; clear hW; go_simp; try (intro h; omega)⟩) hHeld ?_
              simp only [put_laws]
              refine take_at 1 14 (.int .u64 (p.done : Nat)) rfl rfl (by kernel_rfl) (by kernel_rfl) (by kernel_rfl) (fun _ _ _ h => h) (Or.inl ⟨by rfl, by intro W hW; have hc := hW.po.done_; clear hW; go_simp⟩) hHeld ?_
              simp only [put_laws]
              refine take_at 2 15 (.int .i64 (k : Nat)) rfl rfl (by kernel_rfl) (by kernel_rfl) (by kernel_rfl) (fun _ _ _ h => h) (Or.inl ⟨by rfl, by intro W hW; clear hW; go_simp⟩) hHeld ?_
              simp only [put_laws]
              refine wpAnyH_ready (rs := [3]) (by kernel_rfl) (by simp) ?_
              refine AllReadyH.cons rfl (fun K hK => ?_) AllReadyH.nil
              go_simp
              refine (rhas_nat_val p.done k true _ HP.out.done (by omega) HD.out).mono ?_
              rintro e w' ⟨rfl, rfl⟩
              try go_simp
              refine hK.out _ _ hHeld (fun hHeld => ?_)
              clear hK K
              refine take_at 4 17 (.bool true) rfl rfl (by kernel_rfl) (by kernel_rfl) (by kernel_rfl) (fun _ _ _ h => h) (Or.inl ⟨by rfl, by intro W hW; clear hW; go_simp⟩) hHeld ?_
              simp only [put_laws]
              refine take_at 5 18 (.agg (matA (turn p.m))) rfl rfl (by kernel_rfl) (by kernel_rfl) (by kernel_rfl) (fun _ _ _ h => h) (yields_row (by rfl) 35 (.tmp 4) rfl (w1.heap.size) rfl 35 (matA (turn p.m)) (fun W h => h.tu) Tryd.underlying35 (rmatInfo _)) hHeld ?_
              simp only [put_laws]
              refine take_at 6 19 (.int .i64 (k : Nat)) rfl rfl (by kernel_rfl) (by kernel_rfl) (by kernel_rfl) (fun _ _ _ h => h) (Or.inl ⟨by rfl, by intro W hW; clear hW; go_simp⟩) hHeld ?_
              simp only [put_laws]
              refine wpAnyH_ready (rs := [7]) (by kernel_rfl) (by simp) ?_
              refine AllReadyH.cons rfl (fun K hK => ?_) AllReadyH.nil
              go_simp
              refine (routs_val (turn p.m) k 0 _ HT.out hlt HI0.out).mono ?_
              rintro e w5 ⟨rfl, hb5⟩
              try go_simp
              have hHeld := hHeld.below hb5
              refine hK.out _ _ hHeld (fun hHeld => ?_)
              clear hK K
              refine take_at 8 21 (.bool true) rfl rfl (by kernel_rfl) (by kernel_rfl) (by kernel_rfl) (fun _ _ _ h => h) (Or.inl ⟨by rfl, by intro W hW; clear hW; go_simp⟩) hHeld ?_
              simp only [put_laws]
              refine take_at 9 22 (.bool true) rfl rfl (by kernel_rfl) (by kernel_rfl) (by kernel_rfl) (fun _ _ _ h => h) (Or.inl ⟨by rfl, by intro W hW; clear hW; go_simp⟩) hHeld ?_
              simp only [put_laws]
              refine take_at 10 23 (.bool true) rfl rfl (by kernel_rfl) (by kernel_rfl) (by kernel_rfl) (fun _ _ _ h => h) (Or.inl ⟨by rfl, by intro W hW; clear hW; go_simp⟩) hHeld ?_
              simp only [put_laws]
              refine take_at 11 24 (.int .i64 (f : Nat)) rfl rfl (by kernel_rfl) (by kernel_rfl) (by kernel_rfl) (fun _ _ _ h => h) (Or.inl ⟨by rfl, by intro W hW; clear hW; go_simp⟩) hHeld ?_
              simp only [put_laws]
              refine take_at 12 25 (.bool false) rfl rfl (by kernel_rfl) (by kernel_rfl) (by kernel_rfl) (fun _ _ _ h => h) (Or.inl ⟨by rfl, by intro W hW; clear hW; go_simp⟩) hHeld ?_
              simp only [put_laws]
              refine take_at 13 26 (.bool false) rfl rfl (by kernel_rfl) (by kernel_rfl) (by kernel_rfl) (fun _ _ _ h => h) (Or.inl ⟨by rfl, by intro W hW; clear hW; go_simp⟩) hHeld ?_
              simp only [put_laws]
              refine take_at 14 27 (.int .i64 (k : Nat)) rfl rfl (by kernel_rfl) (by kernel_rfl) (by kernel_rfl) (fun _ _ _ h => h) (Or.inl ⟨by rfl, by intro W hW; clear hW; go_simp⟩) hHeld ?_
              simp only [put_laws]
              refine take_at 15 28 (.pointer (some ⟨w.heap.size, 67, none⟩)) rfl rfl (by kernel_rfl) (by kernel_rfl) (by kernel_rfl) (fun _ _ _ h => h) (Or.inl ⟨by rfl, by intro W hW; clear hW; go_simp; try (intro h; omega)⟩) hHeld ?_
              simp only [put_laws]
              refine take_at 16 29 (.pointer (some ⟨w.heap.size, 67 + k, none⟩)) rfl rfl (by kernel_rfl) (by kernel_rfl) (by kernel_rfl) (fun _ _ _ h => h) (Or.inl ⟨by rfl, by intro W hW; clear hW; go_simp; try (intro h; omega)⟩) hHeld ?_
              simp only [put_laws]
              refine take_at 17 30 (.int .i64 (p.ids k)) rfl rfl (by kernel_rfl) (by kernel_rfl) (by kernel_rfl) (fun _ _ _ h => h) (Or.inl ⟨by rfl, by intro W hW; have hc := hW.po.id_ k hlt; clear hW; go_simp⟩) hHeld ?_
              simp only [put_laws]
              refine take_at 18 31 (.int .i64 (f : Nat)) rfl rfl (by kernel_rfl) (by kernel_rfl) (by kernel_rfl) (fun _ _ _ h => h) (Or.inl ⟨by rfl, by intro W hW; clear hW; go_simp⟩) hHeld ?_
              simp only [put_laws]
              refine take_at 19 32 (.pointer (some ⟨w.heap.size, 67, none⟩)) rfl rfl (by kernel_rfl) (by kernel_rfl) (by kernel_rfl) (fun _ _ _ h => h) (Or.inl ⟨by rfl, by intro W hW; clear hW; go_simp; try (intro h; omega)⟩) hHeld ?_
              simp only [put_laws]
              refine take_at 20 33 (.pointer (some ⟨w.heap.size, 67 + f, none⟩)) rfl rfl (by kernel_rfl) (by kernel_rfl) (by kernel_rfl) (fun _ _ _ h => h) (Or.inl ⟨by rfl, by intro W hW; clear hW; go_simp; try (intro h; omega)⟩) hHeld ?_
              simp only [put_laws]
              refine take_at 21 34 (.int .i64 (p.ids f)) rfl rfl (by kernel_rfl) (by kernel_rfl) (by kernel_rfl) (fun _ _ _ h => h) (Or.inl ⟨by rfl, by intro W hW; have hc := hW.po.id_ f hf; clear hW; go_simp⟩) hHeld ?_
              simp only [put_laws]
              refine take_at 22 35 (.bool true) rfl rfl (by kernel_rfl) (by kernel_rfl) (by kernel_rfl) (fun _ _ _ h => h) (Or.inl ⟨by rfl, by intro W hW; clear hW; go_simp⟩) hHeld ?_
              simp only [put_laws]
              refine take_at 23 36 (.bool true) rfl rfl (by kernel_rfl) (by kernel_rfl) (by kernel_rfl) (fun _ _ _ h => h) (Or.inl ⟨by rfl, by intro W hW; clear hW; go_simp⟩) hHeld ?_
              simp only [put_laws]
              refine take_at 24 37 (.bool true) rfl rfl (by kernel_rfl) (by kernel_rfl) (by kernel_rfl) (fun _ _ _ h => h) (Or.inl ⟨by rfl, by intro W hW; clear hW; go_simp⟩) hHeld ?_
              simp only [put_laws]
              refine wpAnyH_done (by kernel_rfl) ?_ _
              refine NoPanic.normal ?_
              go_wp2
              exact ⟨⟨k + 1, by omega, by go_num, by rw [HB.out]; rfl, hHeld⟩, by simp [intOf]; omega⟩
            · have HB := Lib.hid (best_not (show Po.better p k (Po.bestTo p k) = false by rw [hb]; simp [Po.better]; omega))
              have HB2 := Lib.hid hb
              have hge : p.ids f ≤ p.ids k := by omega
              clear hb
              simp only [goV]
              go_wp2
              refine wp_region_noPanic ?_
              refine region_start (S := SrcSt p w w1.heap.size) 25 rfl (by kernel_rfl) (HS.out.drew) (fun hHeld => ?_)
              refine take_at 0 13 (.pointer (some ⟨w.heap.size, 66, none⟩)) rfl rfl (by kernel_rfl) (by kernel_rfl) (by kernel_rfl) (fun _ _ _ h => h) (Or.inl ⟨by rfl, by intro W hW; clear hW; go_simp; try (intro h; omega)⟩) hHeld ?_
              simp only [put_laws]
              refine take_at 1 14 (.int .u64 (p.done : Nat)) rfl rfl (by kernel_rfl) (by kernel_rfl) (by kernel_rfl) (fun _ _ _ h => h) (Or.inl ⟨by rfl, by intro W hW; have hc := hW.po.done_; clear hW; go_simp⟩) hHeld ?_
              simp only [put_laws]
              refine take_at 2 15 (.int .i64 (k : Nat)) rfl rfl (by kernel_rfl) (by kernel_rfl) (by kernel_rfl) (fun _ _ _ h => h) (Or.inl ⟨by rfl, by intro W hW; clear hW; go_simp⟩) hHeld ?_
              simp only [put_laws]
              refine wpAnyH_ready (rs := [3]) (by kernel_rfl) (by simp) ?_
              refine AllReadyH.cons rfl (fun K hK => ?_) AllReadyH.nil
              go_simp
              refine (rhas_nat_val p.done k true _ HP.out.done (by omega) HD.out).mono ?_
              rintro e w' ⟨rfl, rfl⟩
              try go_simp
              refine hK.out _ _ hHeld (fun hHeld => ?_)
              clear hK K
              refine take_at 4 17 (.bool true) rfl rfl (by kernel_rfl) (by kernel_rfl) (by kernel_rfl) (fun _ _ _ h => h) (Or.inl ⟨by rfl, by intro W hW; clear hW; go_simp⟩) hHeld ?_
              simp only [put_laws]
              refine take_at 5 18 (.agg (matA (turn p.m))) rfl rfl (by kernel_rfl) (by kernel_rfl) (by kernel_rfl) (fun _ _ _ h => h) (yields_row (by rfl) 35 (.tmp 4) rfl (w1.heap.size) rfl 35 (matA (turn p.m)) (fun W h => h.tu) Tryd.underlying35 (rmatInfo _)) hHeld ?_
              simp only [put_laws]
              refine take_at 6 19 (.int .i64 (k : Nat)) rfl rfl (by kernel_rfl) (by kernel_rfl) (by kernel_rfl) (fun _ _ _ h => h) (Or.inl ⟨by rfl, by intro W hW; clear hW; go_simp⟩) hHeld ?_
              simp only [put_laws]
              refine wpAnyH_ready (rs := [7]) (by kernel_rfl) (by simp) ?_
              refine AllReadyH.cons rfl (fun K hK => ?_) AllReadyH.nil
              go_simp
              refine (routs_val (turn p.m) k 0 _ HT.out hlt HI0.out).mono ?_
              rintro e w5 ⟨rfl, hb5⟩
              try go_simp
              have hHeld := hHeld.below hb5
              refine hK.out _ _ hHeld (fun hHeld => ?_)
              clear hK K
              refine take_at 8 21 (.bool true) rfl rfl (by kernel_rfl) (by kernel_rfl) (by kernel_rfl) (fun _ _ _ h => h) (Or.inl ⟨by rfl, by intro W hW; clear hW; go_simp⟩) hHeld ?_
              simp only [put_laws]
              refine take_at 9 22 (.bool true) rfl rfl (by kernel_rfl) (by kernel_rfl) (by kernel_rfl) (fun _ _ _ h => h) (Or.inl ⟨by rfl, by intro W hW; clear hW; go_simp⟩) hHeld ?_
              simp only [put_laws]
              refine take_at 10 23 (.bool true) rfl rfl (by kernel_rfl) (by kernel_rfl) (by kernel_rfl) (fun _ _ _ h => h) (Or.inl ⟨by rfl, by intro W hW; clear hW; go_simp⟩) hHeld ?_
              simp only [put_laws]
              refine take_at 11 24 (.int .i64 (f : Nat)) rfl rfl (by kernel_rfl) (by kernel_rfl) (by kernel_rfl) (fun _ _ _ h => h) (Or.inl ⟨by rfl, by intro W hW; clear hW; go_simp⟩) hHeld ?_
              simp only [put_laws]
              refine take_at 12 25 (.bool false) rfl rfl (by kernel_rfl) (by kernel_rfl) (by kernel_rfl) (fun _ _ _ h => h) (Or.inl ⟨by rfl, by intro W hW; clear hW; go_simp⟩) hHeld ?_
              simp only [put_laws]
              refine take_at 13 26 (.bool false) rfl rfl (by kernel_rfl) (by kernel_rfl) (by kernel_rfl) (fun _ _ _ h => h) (Or.inl ⟨by rfl, by intro W hW; clear hW; go_simp⟩) hHeld ?_
              simp only [put_laws]
              refine take_at 14 27 (.int .i64 (k : Nat)) rfl rfl (by kernel_rfl) (by kernel_rfl) (by kernel_rfl) (fun _ _ _ h => h) (Or.inl ⟨by rfl, by intro W hW; clear hW; go_simp⟩) hHeld ?_
              simp only [put_laws]
              refine take_at 15 28 (.pointer (some ⟨w.heap.size, 67, none⟩)) rfl rfl (by kernel_rfl) (by kernel_rfl) (by kernel_rfl) (fun _ _ _ h => h) (Or.inl ⟨by rfl, by intro W hW; clear hW; go_simp; try (intro h; omega)⟩) hHeld ?_
              simp only [put_laws]
              refine take_at 16 29 (.pointer (some ⟨w.heap.size, 67 + k, none⟩)) rfl rfl (by kernel_rfl) (by kernel_rfl) (by kernel_rfl) (fun _ _ _ h => h) (Or.inl ⟨by rfl, by intro W hW; clear hW; go_simp; try (intro h; omega)⟩) hHeld ?_
              simp only [put_laws]
              refine take_at 17 30 (.int .i64 (p.ids k)) rfl rfl (by kernel_rfl) (by kernel_rfl) (by kernel_rfl) (fun _ _ _ h => h) (Or.inl ⟨by rfl, by intro W hW; have hc := hW.po.id_ k hlt; clear hW; go_simp⟩) hHeld ?_
              simp only [put_laws]
              refine take_at 18 31 (.int .i64 (f : Nat)) rfl rfl (by kernel_rfl) (by kernel_rfl) (by kernel_rfl) (fun _ _ _ h => h) (Or.inl ⟨by rfl, by intro W hW; clear hW; go_simp⟩) hHeld ?_
              simp only [put_laws]
              refine take_at 19 32 (.pointer (some ⟨w.heap.size, 67, none⟩)) rfl rfl (by kernel_rfl) (by kernel_rfl) (by kernel_rfl) (fun _ _ _ h => h) (Or.inl ⟨by rfl, by intro W hW; clear hW; go_simp; try (intro h; omega)⟩) hHeld ?_
              simp only [put_laws]
              refine take_at 20 33 (.pointer (some ⟨w.heap.size, 67 + f, none⟩)) rfl rfl (by kernel_rfl) (by kernel_rfl) (by kernel_rfl) (fun _ _ _ h => h) (Or.inl ⟨by rfl, by intro W hW; clear hW; go_simp; try (intro h; omega)⟩) hHeld ?_
              simp only [put_laws]
              refine take_at 21 34 (.int .i64 (p.ids f)) rfl rfl (by kernel_rfl) (by kernel_rfl) (by kernel_rfl) (fun _ _ _ h => h) (Or.inl ⟨by rfl, by intro W hW; have hc := hW.po.id_ f hf; clear hW; go_simp⟩) hHeld ?_
              simp only [put_laws]
              refine take_at 22 35 (.bool false) rfl rfl (by kernel_rfl) (by kernel_rfl) (by kernel_rfl) (fun _ _ _ h => h) (Or.inl ⟨by rfl, by intro W hW; clear hW; go_simp⟩) hHeld ?_
              simp only [put_laws]
              refine take_at 23 36 (.bool false) rfl rfl (by kernel_rfl) (by kernel_rfl) (by kernel_rfl) (fun _ _ _ h => h) (Or.inl ⟨by rfl, by intro W hW; clear hW; go_simp⟩) hHeld ?_
              simp only [put_laws]
              refine take_at 24 37 (.bool false) rfl rfl (by kernel_rfl) (by kernel_rfl) (by kernel_rfl) (fun _ _ _ h => h) (Or.inl ⟨by rfl, by intro W hW; clear hW; go_simp⟩) hHeld ?_
              simp only [put_laws]
              refine wpAnyH_done (by kernel_rfl) ?_ _
              refine NoPanic.normal ?_
              go_wp2
              exact ⟨⟨k + 1, by omega, by go_num, by rw [HB.out, HB2.out]; rfl, hHeld⟩, by simp [intOf]; omega⟩
        · have HG := Lib.hid (best_no (show Po.goable p k = false by unfold Po.goable; rw [decide_eq_false hi, Bool.and_false]))
          have HI := Lib.hid (show (((Mm.ins p.m k : Nat) : Int) == 0) = false by simpa using hi)
          have HI0 := Lib.hid (turn_outs p.m k)
          generalize hB : goV (Po.bestTo p k) = B at *
          clear hi
          go_wp2
          refine wp_region_noPanic ?_
          refine region_start (S := SrcSt p w w1.heap.size) 25 rfl (by kernel_rfl) (HS.out.drew) (fun hHeld => ?_)
          refine take_at 0 13 (.pointer (some ⟨w.heap.size, 66, none⟩)) rfl rfl (by kernel_rfl) (by kernel_rfl) (by kernel_rfl) (fun _ _ _ h => h) (Or.inl ⟨by rfl, by intro W hW; clear hW; go_simp; try (intro h; omega)⟩) hHeld ?_
          simp only [put_laws]
          refine take_at 1 14 (.int .u64 (p.done : Nat)) rfl rfl (by kernel_rfl) (by kernel_rfl) (by kernel_rfl) (fun _ _ _ h => h) (Or.inl ⟨by rfl, by intro W hW; have hc := hW.po.done_; clear hW; go_simp⟩) hHeld ?_
          simp only [put_laws]
          refine take_at 2 15 (.int .i64 (k : Nat)) rfl rfl (by kernel_rfl) (by kernel_rfl) (by kernel_rfl) (fun _ _ _ h => h) (Or.inl ⟨by rfl, by intro W hW; clear hW; go_simp⟩) hHeld ?_
          simp only [put_laws]
          refine wpAnyH_ready (rs := [3]) (by kernel_rfl) (by simp) ?_
          refine AllReadyH.cons rfl (fun K hK => ?_) AllReadyH.nil
          go_simp
          refine (rhas_nat_val p.done k true _ HP.out.done (by omega) HD.out).mono ?_
          rintro e w' ⟨rfl, rfl⟩
          try go_simp
          refine hK.out _ _ hHeld (fun hHeld => ?_)
          clear hK K
          refine take_at 4 17 (.bool true) rfl rfl (by kernel_rfl) (by kernel_rfl) (by kernel_rfl) (fun _ _ _ h => h) (Or.inl ⟨by rfl, by intro W hW; clear hW; go_simp⟩) hHeld ?_
          simp only [put_laws]
          refine take_at 5 18 (.agg (matA (turn p.m))) rfl rfl (by kernel_rfl) (by kernel_rfl) (by kernel_rfl) (fun _ _ _ h => h) (yields_row (by rfl) 35 (.tmp 4) rfl (w1.heap.size) rfl 35 (matA (turn p.m)) (fun W h => h.tu) Tryd.underlying35 (rmatInfo _)) hHeld ?_
          simp only [put_laws]
          refine take_at 6 19 (.int .i64 (k : Nat)) rfl rfl (by kernel_rfl) (by kernel_rfl) (by kernel_rfl) (fun _ _ _ h => h) (Or.inl ⟨by rfl, by intro W hW; clear hW; go_simp⟩) hHeld ?_
          simp only [put_laws]
          refine wpAnyH_ready (rs := [7]) (by kernel_rfl) (by simp) ?_
          refine AllReadyH.cons rfl (fun K hK => ?_) AllReadyH.nil
          go_simp
          refine (routs_val (turn p.m) k _ _ HT.out hlt HI0.out).mono ?_
          rintro e w5 ⟨rfl, hb5⟩
          try go_simp
          have hHeld := hHeld.below hb5
          refine hK.out _ _ hHeld (fun hHeld => ?_)
          clear hK K
          refine take_at 8 21 (.bool false) rfl rfl (by kernel_rfl) (by kernel_rfl) (by kernel_rfl) (fun _ _ _ h => h) (Or.inl ⟨by rfl, by intro W hW; have hx := HI.out; clear hW; go_simp⟩) hHeld ?_
          simp only [put_laws]
          refine take_at 9 22 (.bool false) rfl rfl (by kernel_rfl) (by kernel_rfl) (by kernel_rfl) (fun _ _ _ h => h) (Or.inl ⟨by rfl, by intro W hW; clear hW; go_simp⟩) hHeld ?_
          simp only [put_laws]
          refine take_at 10 23 (.bool false) rfl rfl (by kernel_rfl) (by kernel_rfl) (by kernel_rfl) (fun _ _ _ h => h) (Or.inl ⟨by rfl, by intro W hW; clear hW; go_simp⟩) hHeld ?_
          simp only [put_laws]
          refine take_at 11 24 undef rfl rfl (by kernel_rfl) (by kernel_rfl) (by kernel_rfl) (fun _ _ _ h => h) (Or.inr ⟨by rfl, rfl⟩) hHeld ?_
          simp only [put_laws]
          refine take_at 12 25 undef rfl rfl (by kernel_rfl) (by kernel_rfl) (by kernel_rfl) (fun _ _ _ h => h) (Or.inr ⟨by rfl, rfl⟩) hHeld ?_
          simp only [put_laws]
          refine take_at 13 26 undef rfl rfl (by kernel_rfl) (by kernel_rfl) (by kernel_rfl) (fun _ _ _ h => h) (Or.inr ⟨by rfl, rfl⟩) hHeld ?_
          simp only [put_laws]
          refine take_at 14 27 undef rfl rfl (by kernel_rfl) (by kernel_rfl) (by kernel_rfl) (fun _ _ _ h => h) (Or.inr ⟨by rfl, rfl⟩) hHeld ?_
          simp only [put_laws]
          refine take_at 15 28 undef rfl rfl (by kernel_rfl) (by kernel_rfl) (by kernel_rfl) (fun _ _ _ h => h) (Or.inr ⟨by rfl, rfl⟩) hHeld ?_
          simp only [put_laws]
          refine take_at 16 29 undef rfl rfl (by kernel_rfl) (by kernel_rfl) (by kernel_rfl) (fun _ _ _ h => h) (Or.inr ⟨by rfl, rfl⟩) hHeld ?_
          simp only [put_laws]
          refine take_at 17 30 undef rfl rfl (by kernel_rfl) (by kernel_rfl) (by kernel_rfl) (fun _ _ _ h => h) (Or.inr ⟨by rfl, rfl⟩) hHeld ?_
          simp only [put_laws]
          refine take_at 18 31 undef rfl rfl (by kernel_rfl) (by kernel_rfl) (by kernel_rfl) (fun _ _ _ h => h) (Or.inr ⟨by rfl, rfl⟩) hHeld ?_
          simp only [put_laws]
          refine take_at 19 32 undef rfl rfl (by kernel_rfl) (by kernel_rfl) (by kernel_rfl) (fun _ _ _ h => h) (Or.inr ⟨by rfl, rfl⟩) hHeld ?_
          simp only [put_laws]
          refine take_at 20 33 undef rfl rfl (by kernel_rfl) (by kernel_rfl) (by kernel_rfl) (fun _ _ _ h => h) (Or.inr ⟨by rfl, rfl⟩) hHeld ?_
          simp only [put_laws]
          refine take_at 21 34 undef rfl rfl (by kernel_rfl) (by kernel_rfl) (by kernel_rfl) (fun _ _ _ h => h) (Or.inr ⟨by rfl, rfl⟩) hHeld ?_
          simp only [put_laws]
          refine take_at 22 35 undef rfl rfl (by kernel_rfl) (by kernel_rfl) (by kernel_rfl) (fun _ _ _ h => h) (Or.inr ⟨by rfl, rfl⟩) hHeld ?_
          simp only [put_laws]
          refine take_at 23 36 undef rfl rfl (by kernel_rfl) (by kernel_rfl) (by kernel_rfl) (fun _ _ _ h => h) (Or.inr ⟨by rfl, rfl⟩) hHeld ?_
          simp only [put_laws]
          refine take_at 24 37 (.bool false) rfl rfl (by kernel_rfl) (by kernel_rfl) (by kernel_rfl) (fun _ _ _ h => h) (Or.inl ⟨by rfl, by intro W hW; clear hW; go_simp⟩) hHeld ?_
          simp only [put_laws]
          refine wpAnyH_done (by kernel_rfl) ?_ _
          refine NoPanic.normal ?_
          go_wp2
          exact ⟨⟨k + 1, by omega, by go_num, by rw [HG.out, hB], hHeld⟩, by simp [intOf]; omega⟩
    · obtain rfl : k = 32 := by omega
      go_wp2
      go_ret
      exact ⟨rfl, HS.out.bel⟩
end Go.Proofs.YtakoceablbgchaaDoor
namespace Go.Proofs.YtakoceablbgchaaDoor
open Go.RowKit
attribute [local go_sem ↓] Go.wp_at_zero Go.wp_at_succ
theorem src_val (p : Pl) (v : Int) (w : World) (hp : p.Ok) (h : goV (Po.next p) = v) : Calls Tryd.prog 58 #[.agg (poolA p)] w fun e w' => e = .returned (.int .i64 v) ∧ Below w.heap.size w w' := by
  have := source_any p w hp
  rw [h] at this; exact this
def RCollRel (p : Pl) (w : World) (l i : Value) (wr : World) : Prop :=
  ∃ (c : Pl) (went : List Int) (v : Value), v = l ∧ i = .int .i64 (goV (Po.next c)) ∧ CSt p 38 w c v went wr
theorem rless_val' (x k : Nat) (w : World) (hx : x < 18446744073709551616) (hk : k < 64) :
    Calls Tryd.prog 56 #[.int .u64 x, .int .i64 (k : Nat)] w fun e w' => e = .returned (.int .u64 (Sm.less x (k : Nat) : Nat)) ∧ w = w' := rless_any x (k : Nat) w hx (by omega) (by omega)
set_option maxHeartbeats 4000000 in
set_option maxRecDepth 100000 in
theorem rcollect_any (p : Pl) (w : World) (hp : p.Ok) : Calls Tryd.prog 34 #[.agg (poolA p)] w (CollPost p w) := by
  obtain ⟨i0, hi, hz0, hz1, hz2⟩ := info_parts int_info
  have hz := (zero_of_info zero_rpool_info).1
  have H0 := Lib.hid (show CSt p 38 w p (.slice none 0 0) [] _ from ⟨qst_first p 38 w, ownI_nil _ _, hp, rfl, rfl, coll_len p hp⟩)
  clear hp
  go_enter Tryd.func34, Tryd.ntmps34
  go_wp2_with (refine load_pool rfl 38 (.tmp 1) rfl w.heap.size p 38 rfl _ H0.out.st.po Tryd.underlying38 rfl rpool_info ?_)
  refine (source_any p _ H0.out.ok).mono ?_
  rintro e w1 ⟨rfl, hb1⟩
  have H1 := Lib.hid (H0.out.below hb1)
  clear hb1 H0
  generalize hG : goV (Po.next p) = G0
  have HG := Lib.hid hG
  clear hG
  go_wp2
  go_loopw [4, 5] (RCollRel p w) (fun _ _ wr => doneOf w wr)
  case atStart => exact ⟨p, [], _, rfl, by rw [HG.out], H1.out⟩
  case round =>
    obtain ⟨c, went, v, rfl, rfl, hst⟩ := hrel
    have HS := Lib.hid hst
    clear hst
    cases hn : Po.next c with
    | none =>
      have HC := Lib.hid (Po.collect_none hn)
      rw [show goV none = -1 from rfl]
      clear hn
      go_wp2_with (first
        | (refine load_pool rfl 38 (.tmp 1) rfl w.heap.size c 38 rfl _ HS.out.st.po Tryd.underlying38 rfl rpool_info ?_)
        | (refine store_pool rfl 38 (.tmp 2) (.tmp 32) rfl rfl (w.heap.size + 1) _ c 38 rfl rfl HS.out.st.re rpool_info ?_))
      refine bodyPost_ret (results_pool rfl _ _ (w.heap.size + 1) 38 c _ v rfl rfl (HS.out.st.tell c).re Tryd.underlying38 rfl rpool_info) rfl ?_
      refine ⟨v, ?_, ?_, (HS.out.st.tell c).bel⟩
      · rw [← HS.out.res, HC.out]
      · rw [← HS.out.list, HC.out, List.append_nil]
        exact HS.out.row.setRow _ (by omega)
    | some s =>
      have hs := (Po.next_spec hn).1
      have hlen : went.length ≤ 64 := by have := HS.out.len; rw [← HS.out.list, List.length_append] at this; omega
      have HC := Lib.hid (Po.collect_some HS.out.ok.done hn)
      have HD := Lib.hid (Po.count_less HS.out.ok.done (by omega) (Po.next_spec hn).2.1)
      have HM := Lib.hid (show doneOf w wr = Sm.count c.done from doneOf_st HS.out.st)
      rw [show goV (some s) = (s : Int) from rfl]
      clear hn
      have hid := HS.out.st.po.id_ s hs
      have hre := HS.out.st.re.lt
      go_wp2_with (at_builtin; refine wpList_append_own _ rfl _ _ 48 rfl (w.heap.size + 2) 3 i0 (.int .i64 0) 1 8 Tryd.underlying48 hi hz0 hz1 hz2 rfl (by decide) _ _ _ rfl (World.ownsRow.alloc HS.out.row _) ⟨wr.heap.size, 0, none⟩ 1 1 [.int .i64 (c.ids s)] rfl rfl ?c1 ?c2 ?c3 ?c4 ?c5 ?_)
      case c1 =>
        intro j u hj
        match j, hj with
        | 0, hj => simp at hj; subst hj; simp [Addr.add]
      case c2 => intro u hu; simp at hu; subst hu; rfl
      case c3 => unfold maxLen; omega
      case c4 => omega
      case c5 => simp; omega
      intro v' w2 hown' hgrow _
      have HO := Lib.hid (show OwnI w2 (w.heap.size + 2) v' (went ++ [c.ids s]) by unfold OwnI; rw [List.length_append, List.map_append]; exact hown')
      have hb2 : Below (w.heap.size + 2) wr w2 := ((Below.refl (w.heap.size + 2) wr).alloc (by omega) _).grown hgrow (by simp; omega) (fun k hk => (World.ownsRow.lt HS.out.row k hk).1)
      have H2 := Lib.hid (HS.out.st.below2 hb2)
      have HOk := Lib.hid HS.out.ok
      have HR := Lib.hid HS.out.res
      have HL := Lib.hid HS.out.list
      have HLn := Lib.hid HS.out.len
      clear hown' hgrow hb2 HS hid
      go_wp2_with (refine load_m rfl 35 (.tmp 17) rfl w.heap.size c 38 rfl _ H2.out.po Tryd.underlying35 rfl rmat_info ?_)
      refine (rcut_in c.m s _ HOk.out.m hs).mono ?_
      rintro e w3 ⟨rfl, hb3⟩
      have H3 := Lib.hid (H2.out.below hb3)
      have HO3 := Lib.hid (HO.out.below hb3 (Nat.le_refl _))
      clear hb3 H2 HO
      go_wp2_with (refine store_mQ rfl 35 (.tmp 21) (.tmp 20) rfl rfl w _ _ (Mm.cut c.m s) 38 rfl rfl H3.out rmat_info ?_; intro w4 h4 _ k4; have H4 := Lib.hid h4; have HO4 := Lib.hid (HO3.out.same (b := w.heap.size) (by omega) k4); have c4 := h4.po.done_; have f4 := h4.po.frozen 66; clear h4 k4)
      refine (rless_val' c.done s _ HOk.out.done (by omega)).mono ?_
      rintro e w' ⟨rfl, rfl⟩
      have H5 := Lib.hid (H4.out.put_done (Sm.less c.done (s : Nat)))
      have c5 := H5.out.po.id_ s hs
      have f5 := H5.out.po.frozen (67 + s)
      have H6 := Lib.hid (H5.out.put_id s hs 0)
      have H7 := Lib.hid (show QSt (Po.going c s) 38 w zeroP _ from H6.out)
      have HO7 := Lib.hid ((HO4.out.setCell ⟨w.heap.size, 66, none⟩ (.int .u64 (Sm.less c.done (s : Nat) : Nat)) (by simp)).setCell ⟨w.heap.size, 67 + s, none⟩ (.int .i64 0) (by simp))
      go_wp2_with (refine load_pool rfl 38 (.tmp 1) rfl w.heap.size (Po.going c s) 38 rfl _ H7.out.po Tryd.underlying38 rfl rpool_info ?_)
      generalize (w4.setCell ⟨w.heap.size, 66, none⟩ (.int .u64 (Sm.less c.done (s : Nat) : Nat))).setCell ⟨w.heap.size, 67 + s, none⟩ (.int .i64 0) = w5 at *
      refine (source_any (Po.going c s) _ (going_ok HOk.out s)).mono ?_
      rintro e w6 ⟨rfl, hb6⟩
      have H8 := Lib.hid (H7.out.below hb6)
      have HO8 := Lib.hid (HO7.out.below hb6 (Nat.le_refl _))
      clear hb6 H7 HO7 H6 H5 c5 f5
      go_wp2
      refine ⟨⟨Po.going c s, went ++ [c.ids s], v', rfl, rfl, H8.out, HO8.out, going_ok HOk.out s, ?_, ?_, HLn.out⟩, ?_⟩
      · rw [← HR.out, HC.out]
      · rw [← HL.out, HC.out, List.append_assoc]; rfl
      · rw [HM.out, doneOf_st H8.out]
        have := HD.out
        show Sm.count (Sm.less c.done (s : Nat)) < _
        omega
end Go.Proofs.YtakoceablbgchaaDoor
