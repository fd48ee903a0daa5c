/-
  The walk of TopoSorted.
-/
import Derived.Test.YtgelfjoacppkcaaDoorTopoAlive
import Derived.Test.YtgelfjoacppkcaaDoorTopoRef2
namespace Go.Proofs.YtgelfjoacppkcaaDoor
open Go.RowKit
attribute [local go_sem ↓] Go.wp_at_zero Go.wp_at_succ
/-- the arguments' boxes, and the table. -/
structure PSt (w : World) (m : Mm.Gr) (o : Od.O) (W : World) : Prop where
  gr : MatAt W w.heap.size m 24
  od : OrdAt W (w.heap.size + 1) o 26
  tab : TabAt W
  bel : Below w.heap.size w W
theorem PSt.below {w W W' : World} {m : Mm.Gr} {o : Od.O} (h : PSt w m o W) (hb : Below W.heap.size W W') : PSt w m o W' := ⟨h.gr.below hb, h.od.below hb, tab_below h.tab hb, h.bel.trans (hb.mono h.bel.size)⟩
theorem pst_first {w : World} (m : Mm.Gr) (o : Od.O) (hT : TabAt w) : PSt w m o ((w.alloc (.cells (matA m) 24)).alloc (.cells (ordA o) 26)) :=
  ⟨(tst_first m o w).gr, (tst_first m o w).od, tabAt_new (tabAt_new hT _) _, (tst_first m o w).bel⟩
/-- beside these the graph and the order as the program holds them. -/
structure QSt (w : World) (m : Mm.Gr) (o : Od.O) (gm go : Nat) (W : World) : Prop where
  ps : PSt w m o W
  tm : MatAt W gm m 32
  to : OrdAt W go o 34
theorem QSt.below {w W W' : World} {m : Mm.Gr} {o : Od.O} {gm go : Nat} (h : QSt w m o gm go W) (hb : Below W.heap.size W W') : QSt w m o gm go W' := ⟨h.ps.below hb, h.tm.below hb, h.to.below hb⟩
open Classical in
/-- does an edge go down, or stay, among the first k nodes of the row, and of the next one to the first n? -/
noncomputable def dnAt (m : Mm.Gr) (o : Od.O) (k n : Nat) : Bool := decide (∃ i j, Mm.E m (Od.at_ o i) (Od.at_ o j) ∧ i < 32 ∧ j ≤ i ∧ (i < k ∨ (i = k ∧ j < n)))
theorem dn_iff (m : Mm.Gr) (o : Od.O) (k n : Nat) : dnAt m o k n = true ↔ ∃ i j, Mm.E m (Od.at_ o i) (Od.at_ o j) ∧ i < 32 ∧ j ≤ i ∧ (i < k ∨ (i = k ∧ j < n)) := by unfold dnAt; simp
theorem dn_zero (m : Mm.Gr) (o : Od.O) : dnAt m o 0 0 = false := by
  cases h : dnAt m o 0 0
  · rfl
  · obtain ⟨i, j, _, _, _, h⟩ := (dn_iff _ _ _ _).1 h; omega
theorem dn_old {m : Mm.Gr} {o : Od.O} {k n : Nat} (h : dnAt m o k n = true) : dnAt m o k (n + 1) = true := by
  obtain ⟨i, j, h1, h2, h3, h4⟩ := (dn_iff _ _ _ _).1 h
  exact (dn_iff _ _ _ _).2 ⟨i, j, h1, h2, h3, by omega⟩
theorem dn_new {m : Mm.Gr} {o : Od.O} {k n : Nat} (hk : k < 32) (hn : n ≤ k) (hd : dnAt m o k n = false) : dnAt m o k (n + 1) = (Mm.outs m (Od.at_ o k)).testBit (Od.at_ o n) := by
  rw [Bool.eq_iff_iff, dn_iff, Mm.outs_test]
  constructor
  · rintro ⟨i, j, h1, h2, h3, h4⟩
    by_cases e : i = k ∧ j = n
    · rw [e.1, e.2] at h1; exact h1
    · have : dnAt m o k n = true := (dn_iff _ _ _ _).2 ⟨i, j, h1, h2, h3, by omega⟩
      rw [hd] at this; cases this
  · intro h; exact ⟨k, n, h, hk, hn, .inr ⟨rfl, by omega⟩⟩
theorem dn_next (m : Mm.Gr) (o : Od.O) (k : Nat) : dnAt m o k (k + 1) = dnAt m o (k + 1) 0 := by
  rw [Bool.eq_iff_iff, dn_iff, dn_iff]
  constructor
  · rintro ⟨i, j, h1, h2, h3, h4⟩; exact ⟨i, j, h1, h2, h3, by omega⟩
  · rintro ⟨i, j, h1, h2, h3, h4⟩; exact ⟨i, j, h1, h2, h3, by omega⟩
theorem dn_all {m : Mm.Gr} {o : Od.O} (hr : Od.Right o) : Od.sortedB m o = !dnAt m o 32 0 := by
  cases h : dnAt m o 32 0
  · refine Od.sortedB_yes ⟨hr, fun x y he => ?_⟩
    have hx := hr.pl he.1
    have hy := hr.pl he.2.1
    apply Classical.byContradiction
    intro hn
    have : dnAt m o 32 0 = true := (dn_iff _ _ _ _).2 ⟨Od.pl o x, Od.pl o y, by rw [hx.2.2, hy.2.2]; exact he, hx.2.1, by omega, .inl hx.2.1⟩
    rw [h] at this; cases this
  · obtain ⟨i, j, h1, h2, h3, h4⟩ := (dn_iff _ _ _ _).1 h
    refine Od.sortedB_no fun hs => ?_
    have := hs.2 _ _ h1
    rw [(Od.at_spec hr h2).2, (Od.at_spec hr (by omega)).2] at this
    omega
theorem mhas_val (m : Mm.Gr) (a b : Nat) (v : Bool) (w : World) (hm : Mm.Ok m) (ha : a < 32) (h : (Mm.outs m a).testBit b = v) (hb : b < 32) :
    Calls Tryd.prog 27 #[.agg (matA m), .int .i64 (a : Nat), .int .i64 (b : Nat)] w fun e w' => e = .returned (.bool v) ∧ Below w.heap.size w w' := by
  have := mhas_in m a (b : Nat) w hm ha (by omega) (by omega)
  rw [← edge_in, Sm.has_nat b (by have := Mm.outs_lt m a; omega), h] at this
  exact this
structure QR (w : World) (m : Mm.Gr) (o : Od.O) (gm go base : Nat) (v : Value) (W : World) : Prop where
  q : QSt w m o gm go W
  row : Own W base v (Od.row o)
theorem QR.below {w W W' : World} {m : Mm.Gr} {o : Od.O} {gm go base : Nat} {v : Value} (h : QR w m o gm go base v W) (hb : Below W.heap.size W W') : QR w m o gm go base v W' := ⟨h.q.below hb, h.row.below hb (Nat.le_refl _)⟩
def SOut (w : World) (m : Mm.Gr) (o : Od.O) (gm go base : Nat) (v d i : Value) (wr : World) : Prop :=
  ∃ k : Nat, k ≤ 32 ∧ i = .int .i64 k ∧ d = .bool (dnAt m o k 0) ∧ QR w m o gm go base v wr
def SIn (w : World) (m : Mm.Gr) (o : Od.O) (gm go base k : Nat) (v d i : Value) (wr : World) : Prop :=
  ∃ n : Nat, n ≤ k ∧ i = .int .i64 n ∧ d = .bool (dnAt m o k n) ∧ QR w m o gm go base v wr
def SNil (w : World) (m : Mm.Gr) (o : Od.O) (gm go : Nat) (d i : Value) (wr : World) : Prop := i = .int .i64 0 ∧ d = .bool false ∧ QSt w m o gm go wr
set_option maxHeartbeats 4000000 in
set_option maxRecDepth 100000 in
theorem topoSorted_no (m : Mm.Gr) (o : Od.O) (w : World) (hm : Mm.Ok m) (hok : Od.Ok o) (hr : ¬ Od.Right o) (hT : TabAt w) :
    Calls Tryd.prog 9 #[.agg (matA m), .agg (ordA o)] w fun e w' => e = .returned (.bool true) ∧ Below w.heap.size w w' := by
  have HP := Lib.hid (pst_first m o hT)
  have HNR := Lib.hid hr
  have HOk := Lib.hid hok
  have HRB := Lib.hid (Od.rightB_no hr)
  have HSB := Lib.hid (Od.sortedB_no (m := m) (o := o) fun h => hr h.1)
  clear hT hr hok
  go_enter Tryd.func9, Tryd.ntmps9
  go_wp2_with fail
  refine (alive_any _ HP.out.tab).mono ?_
  rintro e w1 ⟨rfl, hb1⟩
  have HS1 := Lib.hid (HP.out.below hb1)
  clear hb1 HP
  go_wp2_with fail
  refine wp_mono (Q := fun e a' w' => e = .normal ∧ (∃ gm go, a' = { tmps := #[.agg (matA m), .agg (ordA o), .pointer (some ⟨w.heap.size, 0, none⟩), .pointer (some ⟨w.heap.size + 1, 0, none⟩), .bool false, .pointer (some ⟨gm, 0, none⟩), .pointer (some ⟨go, 0, none⟩), undef, undef, undef, undef, undef, undef, .bool true, .bool false, .agg (matA m), .agg (matA m), .agg (ordA o), undef, undef, undef, undef, undef, undef, undef, undef, undef, undef, undef, undef, undef, undef, undef, undef, undef, undef, undef, undef, undef, undef, undef, undef, undef, undef, undef, undef, undef, undef, undef, undef, undef, undef, undef, undef, undef, undef, undef, undef, undef, undef, undef], defers := [] } ∧ MatAt w' gm m 32 ∧ OrdAt w' go o 34 ∧ Below (w1).heap.size (w1) w')) ?_ ?_
  · refine wp_region_noPanic ?_
    refine region_start (S := Below (w1).heap.size (w1)) 7 rfl (by kernel_rfl) (below_drew _) (fun hHeld => ?_)
    refine take_at 0 15 (.agg (matA m)) rfl rfl (by kernel_rfl) (by kernel_rfl) (by kernel_rfl) (fun _ _ _ h => h) (yields_row (by rfl) 24 (.tmp 2) rfl (w.heap.size) rfl 24 (matA m) (fun W h => (HS1.out.below h).gr) Tryd.underlying24 (rmatInfo _)) hHeld ?_
    simp only [put_laws]
    refine take_at 2 17 (.agg (ordA o)) rfl rfl (by kernel_rfl) (by kernel_rfl) (by kernel_rfl) (fun _ _ _ h => h) (yields_row (by rfl) 26 (.tmp 3) rfl (w.heap.size + 1) rfl 26 (ordA o) (fun W h => (HS1.out.below h).od) Tryd.underlying26 (rordInfo _)) hHeld ?_
    simp only [put_laws]
    refine wpAnyH_ready (rs := [1, 3, 4]) (by kernel_rfl) (by simp) ?_
    refine AllReadyH.cons rfl (fun K hK => ?_) (AllReadyH.cons rfl (fun K hK => ?_) (AllReadyH.cons rfl (fun K hK => ?_) AllReadyH.nil))
    · go_simp
      refine (theirs_any m _).mono ?_
      rintro e wc ⟨rfl, hb⟩
      try go_simp
      have hHeld := hHeld.trans (hb.mono hHeld.size)
      have hsz := hb.size
      have hsz0 := hHeld.size
      refine hK.out _ _ hHeld (fun hHeld => ?_)
      clear hK K hb
      refine wpAnyH_ready (rs := [3, 4]) (by kernel_rfl) (by simp) ?_
      refine AllReadyH.cons rfl (fun K hK => ?_) (AllReadyH.cons rfl (fun K hK => ?_) AllReadyH.nil)
      · go_simp
        have hHeld := hHeld.alloc hHeld.size (.cells #[Value.int IntKind.u64 0, Value.int IntKind.u64 0, Value.int IntKind.u64 0, Value.int IntKind.u64 0, Value.int IntKind.u64 0, Value.int IntKind.u64 0, Value.int IntKind.u64 0, Value.int IntKind.u64 0, Value.int IntKind.u64 0, Value.int IntKind.u64 0, Value.int IntKind.u64 0, Value.int IntKind.u64 0, Value.int IntKind.u64 0, Value.int IntKind.u64 0, Value.int IntKind.u64 0, Value.int IntKind.u64 0, Value.int IntKind.u64 0, Value.int IntKind.u64 0, Value.int IntKind.u64 0, Value.int IntKind.u64 0, Value.int IntKind.u64 0, Value.int IntKind.u64 0, Value.int IntKind.u64 0, Value.int IntKind.u64 0, Value.int IntKind.u64 0, Value.int IntKind.u64 0, Value.int IntKind.u64 0, Value.int IntKind.u64 0, Value.int IntKind.u64 0, Value.int IntKind.u64 0, Value.int IntKind.u64 0, Value.int IntKind.u64 0] 32)
        have hm := heap_alloc_new (wc) (.cells #[Value.int IntKind.u64 0, Value.int IntKind.u64 0, Value.int IntKind.u64 0, Value.int IntKind.u64 0, Value.int IntKind.u64 0, Value.int IntKind.u64 0, Value.int IntKind.u64 0, Value.int IntKind.u64 0, Value.int IntKind.u64 0, Value.int IntKind.u64 0, Value.int IntKind.u64 0, Value.int IntKind.u64 0, Value.int IntKind.u64 0, Value.int IntKind.u64 0, Value.int IntKind.u64 0, Value.int IntKind.u64 0, Value.int IntKind.u64 0, Value.int IntKind.u64 0, Value.int IntKind.u64 0, Value.int IntKind.u64 0, Value.int IntKind.u64 0, Value.int IntKind.u64 0, Value.int IntKind.u64 0, Value.int IntKind.u64 0, Value.int IntKind.u64 0, Value.int IntKind.u64 0, Value.int IntKind.u64 0, Value.int IntKind.u64 0, Value.int IntKind.u64 0, Value.int IntKind.u64 0, Value.int IntKind.u64 0, Value.int IntKind.u64 0] 32)
        refine hK.out _ _ hHeld (fun hHeld => ?_)
        clear hK K
        refine wpAnyH_ready (rs := [4]) (by kernel_rfl) (by simp) ?_
        refine AllReadyH.cons rfl (fun K hK => ?_) AllReadyH.nil
        go_simp
        have hHeld := hHeld.alloc hHeld.size (.cells #[Value.int IntKind.i64 0, Value.int IntKind.i64 0, Value.int IntKind.i64 0, Value.int IntKind.i64 0, Value.int IntKind.i64 0, Value.int IntKind.i64 0, Value.int IntKind.i64 0, Value.int IntKind.i64 0, Value.int IntKind.i64 0, Value.int IntKind.i64 0, Value.int IntKind.i64 0, Value.int IntKind.i64 0, Value.int IntKind.i64 0, Value.int IntKind.i64 0, Value.int IntKind.i64 0, Value.int IntKind.i64 0, Value.int IntKind.i64 0, Value.int IntKind.i64 0, Value.int IntKind.i64 0, Value.int IntKind.i64 0, Value.int IntKind.i64 0, Value.int IntKind.i64 0, Value.int IntKind.i64 0, Value.int IntKind.i64 0, Value.int IntKind.i64 0, Value.int IntKind.i64 0, Value.int IntKind.i64 0, Value.int IntKind.i64 0, Value.int IntKind.i64 0, Value.int IntKind.i64 0, Value.int IntKind.i64 0, Value.int IntKind.i64 0] 34)
        have hm := (Below.heap_alloc _ (.cells #[Value.int IntKind.i64 0, Value.int IntKind.i64 0, Value.int IntKind.i64 0, Value.int IntKind.i64 0, Value.int IntKind.i64 0, Value.int IntKind.i64 0, Value.int IntKind.i64 0, Value.int IntKind.i64 0, Value.int IntKind.i64 0, Value.int IntKind.i64 0, Value.int IntKind.i64 0, Value.int IntKind.i64 0, Value.int IntKind.i64 0, Value.int IntKind.i64 0, Value.int IntKind.i64 0, Value.int IntKind.i64 0, Value.int IntKind.i64 0, Value.int IntKind.i64 0, Value.int IntKind.i64 0, Value.int IntKind.i64 0, Value.int IntKind.i64 0, Value.int IntKind.i64 0, Value.int IntKind.i64 0, Value.int IntKind.i64 0, Value.int IntKind.i64 0, Value.int IntKind.i64 0, Value.int IntKind.i64 0, Value.int IntKind.i64 0, Value.int IntKind.i64 0, Value.int IntKind.i64 0, Value.int IntKind.i64 0, Value.int IntKind.i64 0] 34) _ (Array.getElem?_eq_some_iff.1 hm).1).trans hm
        have ho := heap_alloc2_new (wc) (.cells #[Value.int IntKind.u64 0, Value.int IntKind.u64 0, Value.int IntKind.u64 0, Value.int IntKind.u64 0, Value.int IntKind.u64 0, Value.int IntKind.u64 0, Value.int IntKind.u64 0, Value.int IntKind.u64 0, Value.int IntKind.u64 0, Value.int IntKind.u64 0, Value.int IntKind.u64 0, Value.int IntKind.u64 0, Value.int IntKind.u64 0, Value.int IntKind.u64 0, Value.int IntKind.u64 0, Value.int IntKind.u64 0, Value.int IntKind.u64 0, Value.int IntKind.u64 0, Value.int IntKind.u64 0, Value.int IntKind.u64 0, Value.int IntKind.u64 0, Value.int IntKind.u64 0, Value.int IntKind.u64 0, Value.int IntKind.u64 0, Value.int IntKind.u64 0, Value.int IntKind.u64 0, Value.int IntKind.u64 0, Value.int IntKind.u64 0, Value.int IntKind.u64 0, Value.int IntKind.u64 0, Value.int IntKind.u64 0, Value.int IntKind.u64 0] 32) (.cells #[Value.int IntKind.i64 0, Value.int IntKind.i64 0, Value.int IntKind.i64 0, Value.int IntKind.i64 0, Value.int IntKind.i64 0, Value.int IntKind.i64 0, Value.int IntKind.i64 0, Value.int IntKind.i64 0, Value.int IntKind.i64 0, Value.int IntKind.i64 0, Value.int IntKind.i64 0, Value.int IntKind.i64 0, Value.int IntKind.i64 0, Value.int IntKind.i64 0, Value.int IntKind.i64 0, Value.int IntKind.i64 0, Value.int IntKind.i64 0, Value.int IntKind.i64 0, Value.int IntKind.i64 0, Value.int IntKind.i64 0, Value.int IntKind.i64 0, Value.int IntKind.i64 0, Value.int IntKind.i64 0, Value.int IntKind.i64 0, Value.int IntKind.i64 0, Value.int IntKind.i64 0, Value.int IntKind.i64 0, Value.int IntKind.i64 0, Value.int IntKind.i64 0, Value.int IntKind.i64 0, Value.int IntKind.i64 0, Value.int IntKind.i64 0] 34)
        refine hK.out _ _ hHeld (fun hHeld => ?_)
        clear hK K
        have hmb : (w1).heap.size ≤ wc.heap.size := by first | omega | (simp at hsz; omega) | (simp at hsz hsz0; omega)
        have hob : (w1).heap.size ≤ wc.heap.size + 1 := by first | omega | (simp at hsz; omega) | (simp at hsz hsz0; omega)
        have hne : wc.heap.size ≠ wc.heap.size + 1 := by first | omega | (simp at hsz; omega) | (simp at hsz hsz0; omega)
        refine wpAnyH_ready (rs := [5]) (by kernel_rfl) (by simp) ?_
        refine AllReadyH.cons rfl (fun K hK => ?_) AllReadyH.nil
        refine step_store_row (by rfl) 32 (.tmp 5) (.tmp 16) (by rfl) (wc.heap.size) (matA m) (by rfl) (by rfl) 32 _ hm (matInfo _) (by rw [matA_size]; rfl) (matA_one _) ?_
        have hHeld := setRow_below (g := wc.heap.size) (cs := matA m) hHeld hmb
        have ho := (setRow_other _ (wc.heap.size) (wc.heap.size + 1) (matA m) (by have := hne; omega)).trans ho
        have hm := setRow_heap _ _ _ (matA m) _ _ hm
        refine hK.out _ _ hHeld (fun hHeld => ?_)
        clear hK K
        refine wpAnyH_ready (rs := [6]) (by kernel_rfl) (by simp) ?_
        refine AllReadyH.cons rfl (fun K hK => ?_) AllReadyH.nil
        refine step_store_row (by rfl) 34 (.tmp 6) (.tmp 17) (by rfl) (wc.heap.size + 1) (ordA o) (by rfl) (by rfl) 34 _ ho (ordInfo _) (by rw [ordA_size]; rfl) (ordA_one _) ?_
        have hHeld := setRow_below (g := wc.heap.size + 1) (cs := ordA o) hHeld hob
        have hm := (setRow_other _ (wc.heap.size + 1) (wc.heap.size) (ordA o) (by have := hne; omega)).trans hm
        have ho := setRow_heap _ _ _ (ordA o) _ _ ho
        refine hK.out _ _ hHeld (fun hHeld => ?_)
        clear hK K
        refine wpAnyH_done (by kernel_rfl) ?_ _
        refine NoPanic.normal ?_
        exact ⟨rfl, _, _, rfl, hm, ho, hHeld⟩
      · go_simp
        have hHeld := hHeld.alloc hHeld.size (.cells #[Value.int IntKind.i64 0, Value.int IntKind.i64 0, Value.int IntKind.i64 0, Value.int IntKind.i64 0, Value.int IntKind.i64 0, Value.int IntKind.i64 0, Value.int IntKind.i64 0, Value.int IntKind.i64 0, Value.int IntKind.i64 0, Value.int IntKind.i64 0, Value.int IntKind.i64 0, Value.int IntKind.i64 0, Value.int IntKind.i64 0, Value.int IntKind.i64 0, Value.int IntKind.i64 0, Value.int IntKind.i64 0, Value.int IntKind.i64 0, Value.int IntKind.i64 0, Value.int IntKind.i64 0, Value.int IntKind.i64 0, Value.int IntKind.i64 0, Value.int IntKind.i64 0, Value.int IntKind.i64 0, Value.int IntKind.i64 0, Value.int IntKind.i64 0, Value.int IntKind.i64 0, Value.int IntKind.i64 0, Value.int IntKind.i64 0, Value.int IntKind.i64 0, Value.int IntKind.i64 0, Value.int IntKind.i64 0, Value.int IntKind.i64 0] 34)
        have ho := heap_alloc_new (wc) (.cells #[Value.int IntKind.i64 0, Value.int IntKind.i64 0, Value.int IntKind.i64 0, Value.int IntKind.i64 0, Value.int IntKind.i64 0, Value.int IntKind.i64 0, Value.int IntKind.i64 0, Value.int IntKind.i64 0, Value.int IntKind.i64 0, Value.int IntKind.i64 0, Value.int IntKind.i64 0, Value.int IntKind.i64 0, Value.int IntKind.i64 0, Value.int IntKind.i64 0, Value.int IntKind.i64 0, Value.int IntKind.i64 0, Value.int IntKind.i64 0, Value.int IntKind.i64 0, Value.int IntKind.i64 0, Value.int IntKind.i64 0, Value.int IntKind.i64 0, Value.int IntKind.i64 0, Value.int IntKind.i64 0, Value.int IntKind.i64 0, Value.int IntKind.i64 0, Value.int IntKind.i64 0, Value.int IntKind.i64 0, Value.int IntKind.i64 0, Value.int IntKind.i64 0, Value.int IntKind.i64 0, Value.int IntKind.i64 0, Value.int IntKind.i64 0] 34)
        refine hK.out _ _ hHeld (fun hHeld => ?_)
        clear hK K
        refine wpAnyH_ready (rs := [3]) (by kernel_rfl) (by simp) ?_
        refine AllReadyH.cons rfl (fun K hK => ?_) AllReadyH.nil
        go_simp
        have hHeld := hHeld.alloc hHeld.size (.cells #[Value.int IntKind.u64 0, Value.int IntKind.u64 0, Value.int IntKind.u64 0, Value.int IntKind.u64 0, Value.int IntKind.u64 0, Value.int IntKind.u64 0, Value.int IntKind.u64 0, Value.int IntKind.u64 0, Value.int IntKind.u64 0, Value.int IntKind.u64 0, Value.int IntKind.u64 0, Value.int IntKind.u64 0, Value.int IntKind.u64 0, Value.int IntKind.u64 0, Value.int IntKind.u64 0, Value.int IntKind.u64 0, Value.int IntKind.u64 0, Value.int IntKind.u64 0, Value.int IntKind.u64 0, Value.int IntKind.u64 0, Value.int IntKind.u64 0, Value.int IntKind.u64 0, Value.int IntKind.u64 0, Value.int IntKind.u64 0, Value.int IntKind.u64 0, Value.int IntKind.u64 0, Value.int IntKind.u64 0, Value.int IntKind.u64 0, Value.int IntKind.u64 0, Value.int IntKind.u64 0, Value.int IntKind.u64 0, Value.int IntKind.u64 0] 32)
        have ho := (Below.heap_alloc _ (.cells #[Value.int IntKind.u64 0, Value.int IntKind.u64 0, Value.int IntKind.u64 0, Value.int IntKind.u64 0, Value.int IntKind.u64 0, Value.int IntKind.u64 0, Value.int IntKind.u64 0, Value.int IntKind.u64 0, Value.int IntKind.u64 0, Value.int IntKind.u64 0, Value.int IntKind.u64 0, Value.int IntKind.u64 0, Value.int IntKind.u64 0, Value.int IntKind.u64 0, Value.int IntKind.u64 0, Value.int IntKind.u64 0, Value.int IntKind.u64 0, Value.int IntKind.u64 0, Value.int IntKind.u64 0, Value.int IntKind.u64 0, Value.int IntKind.u64 0, Value.int IntKind.u64 0, Value.int IntKind.u64 0, Value.int IntKind.u64 0, Value.int IntKind.u64 0, Value.int IntKind.u64 0, Value.int IntKind.u64 0, Value.int IntKind.u64 0, Value.int IntKind.u64 0, Value.int IntKind.u64 0, Value.int IntKind.u64 0, Value.int IntKind.u64 0] 32) _ (Array.getElem?_eq_some_iff.1 ho).1).trans ho
        have hm := heap_alloc2_new (wc) (.cells #[Value.int IntKind.i64 0, Value.int IntKind.i64 0, Value.int IntKind.i64 0, Value.int IntKind.i64 0, Value.int IntKind.i64 0, Value.int IntKind.i64 0, Value.int IntKind.i64 0, Value.int IntKind.i64 0, Value.int IntKind.i64 0, Value.int IntKind.i64 0, Value.int IntKind.i64 0, Value.int IntKind.i64 0, Value.int IntKind.i64 0, Value.int IntKind.i64 0, Value.int IntKind.i64 0, Value.int IntKind.i64 0, Value.int IntKind.i64 0, Value.int IntKind.i64 0, Value.int IntKind.i64 0, Value.int IntKind.i64 0, Value.int IntKind.i64 0, Value.int IntKind.i64 0, Value.int IntKind.i64 0, Value.int IntKind.i64 0, Value.int IntKind.i64 0, Value.int IntKind.i64 0, Value.int IntKind.i64 0, Value.int IntKind.i64 0, Value.int IntKind.i64 0, Value.int IntKind.i64 0, Value.int IntKind.i64 0, Value.int IntKind.i64 0] 34) (.cells #[Value.int IntKind.u64 0, Value.int IntKind.u64 0, Value.int IntKind.u64 0, Value.int IntKind.u64 0, Value.int IntKind.u64 0, Value.int IntKind.u64 0, Value.int IntKind.u64 0, Value.int IntKind.u64 0, Value.int IntKind.u64 0, Value.int IntKind.u64 0, Value.int IntKind.u64 0, Value.int IntKind.u64 0, Value.int IntKind.u64 0, Value.int IntKind.u64 0, Value.int IntKind.u64 0, Value.int IntKind.u64 0, Value.int IntKind.u64 0, Value.int IntKind.u64 0, Value.int IntKind.u64 0, Value.int IntKind.u64 0, Value.int IntKind.u64 0, Value.int IntKind.u64 0, Value.int IntKind.u64 0, Value.int IntKind.u64 0, Value.int IntKind.u64 0, Value.int IntKind.u64 0, Value.int IntKind.u64 0, Value.int IntKind.u64 0, Value.int IntKind.u64 0, Value.int IntKind.u64 0, Value.int IntKind.u64 0, Value.int IntKind.u64 0] 32)
        refine hK.out _ _ hHeld (fun hHeld => ?_)
        clear hK K
        have hmb : (w1).heap.size ≤ wc.heap.size + 1 := by first | omega | (simp at hsz; omega) | (simp at hsz hsz0; omega)
        have hob : (w1).heap.size ≤ wc.heap.size := by first | omega | (simp at hsz; omega) | (simp at hsz hsz0; omega)
        have hne : wc.heap.size + 1 ≠ wc.heap.size := by first | omega | (simp at hsz; omega) | (simp at hsz hsz0; omega)
        refine wpAnyH_ready (rs := [5]) (by kernel_rfl) (by simp) ?_
        refine AllReadyH.cons rfl (fun K hK => ?_) AllReadyH.nil
        refine step_store_row (by rfl) 32 (.tmp 5) (.tmp 16) (by rfl) (wc.heap.size + 1) (matA m) (by rfl) (by rfl) 32 _ hm (matInfo _) (by rw [matA_size]; rfl) (matA_one _) ?_
        have hHeld := setRow_below (g := wc.heap.size + 1) (cs := matA m) hHeld hmb
        have ho := (setRow_other _ (wc.heap.size + 1) (wc.heap.size) (matA m) (by have := hne; omega)).trans ho
        have hm := setRow_heap _ _ _ (matA m) _ _ hm
        refine hK.out _ _ hHeld (fun hHeld => ?_)
        clear hK K
        refine wpAnyH_ready (rs := [6]) (by kernel_rfl) (by simp) ?_
        refine AllReadyH.cons rfl (fun K hK => ?_) AllReadyH.nil
        refine step_store_row (by rfl) 34 (.tmp 6) (.tmp 17) (by rfl) (wc.heap.size) (ordA o) (by rfl) (by rfl) 34 _ ho (ordInfo _) (by rw [ordA_size]; rfl) (ordA_one _) ?_
        have hHeld := setRow_below (g := wc.heap.size) (cs := ordA o) hHeld hob
        have hm := (setRow_other _ (wc.heap.size) (wc.heap.size + 1) (ordA o) (by have := hne; omega)).trans hm
        have ho := setRow_heap _ _ _ (ordA o) _ _ ho
        refine hK.out _ _ hHeld (fun hHeld => ?_)
        clear hK K
        refine wpAnyH_done (by kernel_rfl) ?_ _
        refine NoPanic.normal ?_
        exact ⟨rfl, _, _, rfl, hm, ho, hHeld⟩
    · go_simp
      have hHeld := hHeld.alloc hHeld.size (.cells #[Value.int IntKind.u64 0, Value.int IntKind.u64 0, Value.int IntKind.u64 0, Value.int IntKind.u64 0, Value.int IntKind.u64 0, Value.int IntKind.u64 0, Value.int IntKind.u64 0, Value.int IntKind.u64 0, Value.int IntKind.u64 0, Value.int IntKind.u64 0, Value.int IntKind.u64 0, Value.int IntKind.u64 0, Value.int IntKind.u64 0, Value.int IntKind.u64 0, Value.int IntKind.u64 0, Value.int IntKind.u64 0, Value.int IntKind.u64 0, Value.int IntKind.u64 0, Value.int IntKind.u64 0, Value.int IntKind.u64 0, Value.int IntKind.u64 0, Value.int IntKind.u64 0, Value.int IntKind.u64 0, Value.int IntKind.u64 0, Value.int IntKind.u64 0, Value.int IntKind.u64 0, Value.int IntKind.u64 0, Value.int IntKind.u64 0, Value.int IntKind.u64 0, Value.int IntKind.u64 0, Value.int IntKind.u64 0, Value.int IntKind.u64 0] 32)
      have hm := heap_alloc_new (w1.drew) (.cells #[Value.int IntKind.u64 0, Value.int IntKind.u64 0, Value.int IntKind.u64 0, Value.int IntKind.u64 0, Value.int IntKind.u64 0, Value.int IntKind.u64 0, Value.int IntKind.u64 0, Value.int IntKind.u64 0, Value.int IntKind.u64 0, Value.int IntKind.u64 0, Value.int IntKind.u64 0, Value.int IntKind.u64 0, Value.int IntKind.u64 0, Value.int IntKind.u64 0, Value.int IntKind.u64 0, Value.int IntKind.u64 0, Value.int IntKind.u64 0, Value.int IntKind.u64 0, Value.int IntKind.u64 0, Value.int IntKind.u64 0, Value.int IntKind.u64 0, Value.int IntKind.u64 0, Value.int IntKind.u64 0, Value.int IntKind.u64 0, Value.int IntKind.u64 0, Value.int IntKind.u64 0, Value.int IntKind.u64 0, Value.int IntKind.u64 0, Value.int IntKind.u64 0, Value.int IntKind.u64 0, Value.int IntKind.u64 0, Value.int IntKind.u64 0] 32)
      refine hK.out _ _ hHeld (fun hHeld => ?_)
      clear hK K
      refine wpAnyH_ready (rs := [1, 4]) (by kernel_rfl) (by simp) ?_
      refine AllReadyH.cons rfl (fun K hK => ?_) (AllReadyH.cons rfl (fun K hK => ?_) AllReadyH.nil)
      · go_simp
        refine (theirs_any m _).mono ?_
        rintro e wc ⟨rfl, hb⟩
        try go_simp
        have hHeld := hHeld.trans (hb.mono hHeld.size)
        have hm := (hb.block (w1.heap.size) (by simp <;> omega)).trans hm
        have hsz := hb.size
        have hsz0 := hHeld.size
        refine hK.out _ _ hHeld (fun hHeld => ?_)
        clear hK K hb
        refine wpAnyH_ready (rs := [4]) (by kernel_rfl) (by simp) ?_
        refine AllReadyH.cons rfl (fun K hK => ?_) AllReadyH.nil
        go_simp
        have hHeld := hHeld.alloc hHeld.size (.cells #[Value.int IntKind.i64 0, Value.int IntKind.i64 0, Value.int IntKind.i64 0, Value.int IntKind.i64 0, Value.int IntKind.i64 0, Value.int IntKind.i64 0, Value.int IntKind.i64 0, Value.int IntKind.i64 0, Value.int IntKind.i64 0, Value.int IntKind.i64 0, Value.int IntKind.i64 0, Value.int IntKind.i64 0, Value.int IntKind.i64 0, Value.int IntKind.i64 0, Value.int IntKind.i64 0, Value.int IntKind.i64 0, Value.int IntKind.i64 0, Value.int IntKind.i64 0, Value.int IntKind.i64 0, Value.int IntKind.i64 0, Value.int IntKind.i64 0, Value.int IntKind.i64 0, Value.int IntKind.i64 0, Value.int IntKind.i64 0, Value.int IntKind.i64 0, Value.int IntKind.i64 0, Value.int IntKind.i64 0, Value.int IntKind.i64 0, Value.int IntKind.i64 0, Value.int IntKind.i64 0, Value.int IntKind.i64 0, Value.int IntKind.i64 0] 34)
        have hm := (Below.heap_alloc _ (.cells #[Value.int IntKind.i64 0, Value.int IntKind.i64 0, Value.int IntKind.i64 0, Value.int IntKind.i64 0, Value.int IntKind.i64 0, Value.int IntKind.i64 0, Value.int IntKind.i64 0, Value.int IntKind.i64 0, Value.int IntKind.i64 0, Value.int IntKind.i64 0, Value.int IntKind.i64 0, Value.int IntKind.i64 0, Value.int IntKind.i64 0, Value.int IntKind.i64 0, Value.int IntKind.i64 0, Value.int IntKind.i64 0, Value.int IntKind.i64 0, Value.int IntKind.i64 0, Value.int IntKind.i64 0, Value.int IntKind.i64 0, Value.int IntKind.i64 0, Value.int IntKind.i64 0, Value.int IntKind.i64 0, Value.int IntKind.i64 0, Value.int IntKind.i64 0, Value.int IntKind.i64 0, Value.int IntKind.i64 0, Value.int IntKind.i64 0, Value.int IntKind.i64 0, Value.int IntKind.i64 0, Value.int IntKind.i64 0, Value.int IntKind.i64 0] 34) _ (Array.getElem?_eq_some_iff.1 hm).1).trans hm
        have ho := heap_alloc_new (wc) (.cells #[Value.int IntKind.i64 0, Value.int IntKind.i64 0, Value.int IntKind.i64 0, Value.int IntKind.i64 0, Value.int IntKind.i64 0, Value.int IntKind.i64 0, Value.int IntKind.i64 0, Value.int IntKind.i64 0, Value.int IntKind.i64 0, Value.int IntKind.i64 0, Value.int IntKind.i64 0, Value.int IntKind.i64 0, Value.int IntKind.i64 0, Value.int IntKind.i64 0, Value.int IntKind.i64 0, Value.int IntKind.i64 0, Value.int IntKind.i64 0, Value.int IntKind.i64 0, Value.int IntKind.i64 0, Value.int IntKind.i64 0, Value.int IntKind.i64 0, Value.int IntKind.i64 0, Value.int IntKind.i64 0, Value.int IntKind.i64 0, Value.int IntKind.i64 0, Value.int IntKind.i64 0, Value.int IntKind.i64 0, Value.int IntKind.i64 0, Value.int IntKind.i64 0, Value.int IntKind.i64 0, Value.int IntKind.i64 0, Value.int IntKind.i64 0] 34)
        refine hK.out _ _ hHeld (fun hHeld => ?_)
        clear hK K
        have hmb : (w1).heap.size ≤ w1.heap.size := by first | omega | (simp at hsz; omega) | (simp at hsz hsz0; omega)
        have hob : (w1).heap.size ≤ wc.heap.size := by first | omega | (simp at hsz; omega) | (simp at hsz hsz0; omega)
        have hne : w1.heap.size ≠ wc.heap.size := by first | omega | (simp at hsz; omega) | (simp at hsz hsz0; omega)
        refine wpAnyH_ready (rs := [5]) (by kernel_rfl) (by simp) ?_
        refine AllReadyH.cons rfl (fun K hK => ?_) AllReadyH.nil
        refine step_store_row (by rfl) 32 (.tmp 5) (.tmp 16) (by rfl) (w1.heap.size) (matA m) (by rfl) (by rfl) 32 _ hm (matInfo _) (by rw [matA_size]; rfl) (matA_one _) ?_
        have hHeld := setRow_below (g := w1.heap.size) (cs := matA m) hHeld hmb
        have ho := (setRow_other _ (w1.heap.size) (wc.heap.size) (matA m) (by have := hne; omega)).trans ho
        have hm := setRow_heap _ _ _ (matA m) _ _ hm
        refine hK.out _ _ hHeld (fun hHeld => ?_)
        clear hK K
        refine wpAnyH_ready (rs := [6]) (by kernel_rfl) (by simp) ?_
        refine AllReadyH.cons rfl (fun K hK => ?_) AllReadyH.nil
        refine step_store_row (by rfl) 34 (.tmp 6) (.tmp 17) (by rfl) (wc.heap.size) (ordA o) (by rfl) (by rfl) 34 _ ho (ordInfo _) (by rw [ordA_size]; rfl) (ordA_one _) ?_
        have hHeld := setRow_below (g := wc.heap.size) (cs := ordA o) hHeld hob
        have hm := (setRow_other _ (wc.heap.size) (w1.heap.size) (ordA o) (by have := hne; omega)).trans hm
        have ho := setRow_heap _ _ _ (ordA o) _ _ ho
        refine hK.out _ _ hHeld (fun hHeld => ?_)
        clear hK K
        refine wpAnyH_done (by kernel_rfl) ?_ _
        refine NoPanic.normal ?_
        exact ⟨rfl, _, _, rfl, hm, ho, hHeld⟩
      · go_simp
        have hHeld := hHeld.alloc hHeld.size (.cells #[Value.int IntKind.i64 0, Value.int IntKind.i64 0, Value.int IntKind.i64 0, Value.int IntKind.i64 0, Value.int IntKind.i64 0, Value.int IntKind.i64 0, Value.int IntKind.i64 0, Value.int IntKind.i64 0, Value.int IntKind.i64 0, Value.int IntKind.i64 0, Value.int IntKind.i64 0, Value.int IntKind.i64 0, Value.int IntKind.i64 0, Value.int IntKind.i64 0, Value.int IntKind.i64 0, Value.int IntKind.i64 0, Value.int IntKind.i64 0, Value.int IntKind.i64 0, Value.int IntKind.i64 0, Value.int IntKind.i64 0, Value.int IntKind.i64 0, Value.int IntKind.i64 0, Value.int IntKind.i64 0, Value.int IntKind.i64 0, Value.int IntKind.i64 0, Value.int IntKind.i64 0, Value.int IntKind.i64 0, Value.int IntKind.i64 0, Value.int IntKind.i64 0, Value.int IntKind.i64 0, Value.int IntKind.i64 0, Value.int IntKind.i64 0] 34)
        have hm := (Below.heap_alloc _ (.cells #[Value.int IntKind.i64 0, Value.int IntKind.i64 0, Value.int IntKind.i64 0, Value.int IntKind.i64 0, Value.int IntKind.i64 0, Value.int IntKind.i64 0, Value.int IntKind.i64 0, Value.int IntKind.i64 0, Value.int IntKind.i64 0, Value.int IntKind.i64 0, Value.int IntKind.i64 0, Value.int IntKind.i64 0, Value.int IntKind.i64 0, Value.int IntKind.i64 0, Value.int IntKind.i64 0, Value.int IntKind.i64 0, Value.int IntKind.i64 0, Value.int IntKind.i64 0, Value.int IntKind.i64 0, Value.int IntKind.i64 0, Value.int IntKind.i64 0, Value.int IntKind.i64 0, Value.int IntKind.i64 0, Value.int IntKind.i64 0, Value.int IntKind.i64 0, Value.int IntKind.i64 0, Value.int IntKind.i64 0, Value.int IntKind.i64 0, Value.int IntKind.i64 0, Value.int IntKind.i64 0, Value.int IntKind.i64 0, Value.int IntKind.i64 0] 34) _ (Array.getElem?_eq_some_iff.1 hm).1).trans hm
        have ho := heap_alloc2_new (w1.drew) (.cells #[Value.int IntKind.u64 0, Value.int IntKind.u64 0, Value.int IntKind.u64 0, Value.int IntKind.u64 0, Value.int IntKind.u64 0, Value.int IntKind.u64 0, Value.int IntKind.u64 0, Value.int IntKind.u64 0, Value.int IntKind.u64 0, Value.int IntKind.u64 0, Value.int IntKind.u64 0, Value.int IntKind.u64 0, Value.int IntKind.u64 0, Value.int IntKind.u64 0, Value.int IntKind.u64 0, Value.int IntKind.u64 0, Value.int IntKind.u64 0, Value.int IntKind.u64 0, Value.int IntKind.u64 0, Value.int IntKind.u64 0, Value.int IntKind.u64 0, Value.int IntKind.u64 0, Value.int IntKind.u64 0, Value.int IntKind.u64 0, Value.int IntKind.u64 0, Value.int IntKind.u64 0, Value.int IntKind.u64 0, Value.int IntKind.u64 0, Value.int IntKind.u64 0, Value.int IntKind.u64 0, Value.int IntKind.u64 0, Value.int IntKind.u64 0] 32) (.cells #[Value.int IntKind.i64 0, Value.int IntKind.i64 0, Value.int IntKind.i64 0, Value.int IntKind.i64 0, Value.int IntKind.i64 0, Value.int IntKind.i64 0, Value.int IntKind.i64 0, Value.int IntKind.i64 0, Value.int IntKind.i64 0, Value.int IntKind.i64 0, Value.int IntKind.i64 0, Value.int IntKind.i64 0, Value.int IntKind.i64 0, Value.int IntKind.i64 0, Value.int IntKind.i64 0, Value.int IntKind.i64 0, Value.int IntKind.i64 0, Value.int IntKind.i64 0, Value.int IntKind.i64 0, Value.int IntKind.i64 0, Value.int IntKind.i64 0, Value.int IntKind.i64 0, Value.int IntKind.i64 0, Value.int IntKind.i64 0, Value.int IntKind.i64 0, Value.int IntKind.i64 0, Value.int IntKind.i64 0, Value.int IntKind.i64 0, Value.int IntKind.i64 0, Value.int IntKind.i64 0, Value.int IntKind.i64 0, Value.int IntKind.i64 0] 34)
        refine hK.out _ _ hHeld (fun hHeld => ?_)
        clear hK K
        refine wpAnyH_ready (rs := [1]) (by kernel_rfl) (by simp) ?_
        refine AllReadyH.cons rfl (fun K hK => ?_) AllReadyH.nil
        go_simp
        refine (theirs_any m _).mono ?_
        rintro e wc ⟨rfl, hb⟩
        try go_simp
        have hHeld := hHeld.trans (hb.mono hHeld.size)
        have hm := (hb.block (w1.heap.size) (by simp <;> omega)).trans hm
        have ho := (hb.block (w1.heap.size + 1) (by simp <;> omega)).trans ho
        have hsz := hb.size
        have hsz0 := hHeld.size
        refine hK.out _ _ hHeld (fun hHeld => ?_)
        clear hK K hb
        have hmb : (w1).heap.size ≤ w1.heap.size := by first | omega | (simp at hsz; omega) | (simp at hsz hsz0; omega)
        have hob : (w1).heap.size ≤ w1.heap.size + 1 := by first | omega | (simp at hsz; omega) | (simp at hsz hsz0; omega)
        have hne : w1.heap.size ≠ w1.heap.size + 1 := by first | omega | (simp at hsz; omega) | (simp at hsz hsz0; omega)
        refine wpAnyH_ready (rs := [5]) (by kernel_rfl) (by simp) ?_
        refine AllReadyH.cons rfl (fun K hK => ?_) AllReadyH.nil
        refine step_store_row (by rfl) 32 (.tmp 5) (.tmp 16) (by rfl) (w1.heap.size) (matA m) (by rfl) (by rfl) 32 _ hm (matInfo _) (by rw [matA_size]; rfl) (matA_one _) ?_
        have hHeld := setRow_below (g := w1.heap.size) (cs := matA m) hHeld hmb
        have ho := (setRow_other _ (w1.heap.size) (w1.heap.size + 1) (matA m) (by have := hne; omega)).trans ho
        have hm := setRow_heap _ _ _ (matA m) _ _ hm
        refine hK.out _ _ hHeld (fun hHeld => ?_)
        clear hK K
        refine wpAnyH_ready (rs := [6]) (by kernel_rfl) (by simp) ?_
        refine AllReadyH.cons rfl (fun K hK => ?_) AllReadyH.nil
        refine step_store_row (by rfl) 34 (.tmp 6) (.tmp 17) (by rfl) (w1.heap.size + 1) (ordA o) (by rfl) (by rfl) 34 _ ho (ordInfo _) (by rw [ordA_size]; rfl) (ordA_one _) ?_
        have hHeld := setRow_below (g := w1.heap.size + 1) (cs := ordA o) hHeld hob
        have hm := (setRow_other _ (w1.heap.size + 1) (w1.heap.size) (ordA o) (by have := hne; omega)).trans hm
        have ho := setRow_heap _ _ _ (ordA o) _ _ ho
        refine hK.out _ _ hHeld (fun hHeld => ?_)
        clear hK K
        refine wpAnyH_done (by kernel_rfl) ?_ _
        refine NoPanic.normal ?_
        exact ⟨rfl, _, _, rfl, hm, ho, hHeld⟩
    · go_simp
      have hHeld := hHeld.alloc hHeld.size (.cells #[Value.int IntKind.i64 0, Value.int IntKind.i64 0, Value.int IntKind.i64 0, Value.int IntKind.i64 0, Value.int IntKind.i64 0, Value.int IntKind.i64 0, Value.int IntKind.i64 0, Value.int IntKind.i64 0, Value.int IntKind.i64 0, Value.int IntKind.i64 0, Value.int IntKind.i64 0, Value.int IntKind.i64 0, Value.int IntKind.i64 0, Value.int IntKind.i64 0, Value.int IntKind.i64 0, Value.int IntKind.i64 0, Value.int IntKind.i64 0, Value.int IntKind.i64 0, Value.int IntKind.i64 0, Value.int IntKind.i64 0, Value.int IntKind.i64 0, Value.int IntKind.i64 0, Value.int IntKind.i64 0, Value.int IntKind.i64 0, Value.int IntKind.i64 0, Value.int IntKind.i64 0, Value.int IntKind.i64 0, Value.int IntKind.i64 0, Value.int IntKind.i64 0, Value.int IntKind.i64 0, Value.int IntKind.i64 0, Value.int IntKind.i64 0] 34)
      have ho := heap_alloc_new (w1.drew) (.cells #[Value.int IntKind.i64 0, Value.int IntKind.i64 0, Value.int IntKind.i64 0, Value.int IntKind.i64 0, Value.int IntKind.i64 0, Value.int IntKind.i64 0, Value.int IntKind.i64 0, Value.int IntKind.i64 0, Value.int IntKind.i64 0, Value.int IntKind.i64 0, Value.int IntKind.i64 0, Value.int IntKind.i64 0, Value.int IntKind.i64 0, Value.int IntKind.i64 0, Value.int IntKind.i64 0, Value.int IntKind.i64 0, Value.int IntKind.i64 0, Value.int IntKind.i64 0, Value.int IntKind.i64 0, Value.int IntKind.i64 0, Value.int IntKind.i64 0, Value.int IntKind.i64 0, Value.int IntKind.i64 0, Value.int IntKind.i64 0, Value.int IntKind.i64 0, Value.int IntKind.i64 0, Value.int IntKind.i64 0, Value.int IntKind.i64 0, Value.int IntKind.i64 0, Value.int IntKind.i64 0, Value.int IntKind.i64 0, Value.int IntKind.i64 0] 34)
      refine hK.out _ _ hHeld (fun hHeld => ?_)
      clear hK K
      refine wpAnyH_ready (rs := [1, 3]) (by kernel_rfl) (by simp) ?_
      refine AllReadyH.cons rfl (fun K hK => ?_) (AllReadyH.cons rfl (fun K hK => ?_) AllReadyH.nil)
      · go_simp
        refine (theirs_any m _).mono ?_
        rintro e wc ⟨rfl, hb⟩
        try go_simp
        have hHeld := hHeld.trans (hb.mono hHeld.size)
        have ho := (hb.block (w1.heap.size) (by simp <;> omega)).trans ho
        have hsz := hb.size
        have hsz0 := hHeld.size
        refine hK.out _ _ hHeld (fun hHeld => ?_)
        clear hK K hb
        refine wpAnyH_ready (rs := [3]) (by kernel_rfl) (by simp) ?_
        refine AllReadyH.cons rfl (fun K hK => ?_) AllReadyH.nil
        go_simp
        have hHeld := hHeld.alloc hHeld.size (.cells #[Value.int IntKind.u64 0, Value.int IntKind.u64 0, Value.int IntKind.u64 0, Value.int IntKind.u64 0, Value.int IntKind.u64 0, Value.int IntKind.u64 0, Value.int IntKind.u64 0, Value.int IntKind.u64 0, Value.int IntKind.u64 0, Value.int IntKind.u64 0, Value.int IntKind.u64 0, Value.int IntKind.u64 0, Value.int IntKind.u64 0, Value.int IntKind.u64 0, Value.int IntKind.u64 0, Value.int IntKind.u64 0, Value.int IntKind.u64 0, Value.int IntKind.u64 0, Value.int IntKind.u64 0, Value.int IntKind.u64 0, Value.int IntKind.u64 0, Value.int IntKind.u64 0, Value.int IntKind.u64 0, Value.int IntKind.u64 0, Value.int IntKind.u64 0, Value.int IntKind.u64 0, Value.int IntKind.u64 0, Value.int IntKind.u64 0, Value.int IntKind.u64 0, Value.int IntKind.u64 0, Value.int IntKind.u64 0, Value.int IntKind.u64 0] 32)
        have ho := (Below.heap_alloc _ (.cells #[Value.int IntKind.u64 0, Value.int IntKind.u64 0, Value.int IntKind.u64 0, Value.int IntKind.u64 0, Value.int IntKind.u64 0, Value.int IntKind.u64 0, Value.int IntKind.u64 0, Value.int IntKind.u64 0, Value.int IntKind.u64 0, Value.int IntKind.u64 0, Value.int IntKind.u64 0, Value.int IntKind.u64 0, Value.int IntKind.u64 0, Value.int IntKind.u64 0, Value.int IntKind.u64 0, Value.int IntKind.u64 0, Value.int IntKind.u64 0, Value.int IntKind.u64 0, Value.int IntKind.u64 0, Value.int IntKind.u64 0, Value.int IntKind.u64 0, Value.int IntKind.u64 0, Value.int IntKind.u64 0, Value.int IntKind.u64 0, Value.int IntKind.u64 0, Value.int IntKind.u64 0, Value.int IntKind.u64 0, Value.int IntKind.u64 0, Value.int IntKind.u64 0, Value.int IntKind.u64 0, Value.int IntKind.u64 0, Value.int IntKind.u64 0] 32) _ (Array.getElem?_eq_some_iff.1 ho).1).trans ho
        have hm := heap_alloc_new (wc) (.cells #[Value.int IntKind.u64 0, Value.int IntKind.u64 0, Value.int IntKind.u64 0, Value.int IntKind.u64 0, Value.int IntKind.u64 0, Value.int IntKind.u64 0, Value.int IntKind.u64 0, Value.int IntKind.u64 0, Value.int IntKind.u64 0, Value.int IntKind.u64 0, Value.int IntKind.u64 0, Value.int IntKind.u64 0, Value.int IntKind.u64 0, Value.int IntKind.u64 0, Value.int IntKind.u64 0, Value.int IntKind.u64 0, Value.int IntKind.u64 0, Value.int IntKind.u64 0, Value.int IntKind.u64 0, Value.int IntKind.u64 0, Value.int IntKind.u64 0, Value.int IntKind.u64 0, Value.int IntKind.u64 0, Value.int IntKind.u64 0, Value.int IntKind.u64 0, Value.int IntKind.u64 0, Value.int IntKind.u64 0, Value.int IntKind.u64 0, Value.int IntKind.u64 0, Value.int IntKind.u64 0, Value.int IntKind.u64 0, Value.int IntKind.u64 0] 32)
        refine hK.out _ _ hHeld (fun hHeld => ?_)
        clear hK K
        have hmb : (w1).heap.size ≤ wc.heap.size := by first | omega | (simp at hsz; omega) | (simp at hsz hsz0; omega)
        have hob : (w1).heap.size ≤ w1.heap.size := by first | omega | (simp at hsz; omega) | (simp at hsz hsz0; omega)
        have hne : wc.heap.size ≠ w1.heap.size := by first | omega | (simp at hsz; omega) | (simp at hsz hsz0; omega)
        refine wpAnyH_ready (rs := [5]) (by kernel_rfl) (by simp) ?_
        refine AllReadyH.cons rfl (fun K hK => ?_) AllReadyH.nil
        refine step_store_row (by rfl) 32 (.tmp 5) (.tmp 16) (by rfl) (wc.heap.size) (matA m) (by rfl) (by rfl) 32 _ hm (matInfo _) (by rw [matA_size]; rfl) (matA_one _) ?_
        have hHeld := setRow_below (g := wc.heap.size) (cs := matA m) hHeld hmb
        have ho := (setRow_other _ (wc.heap.size) (w1.heap.size) (matA m) (by have := hne; omega)).trans ho
        have hm := setRow_heap _ _ _ (matA m) _ _ hm
        refine hK.out _ _ hHeld (fun hHeld => ?_)
        clear hK K
        refine wpAnyH_ready (rs := [6]) (by kernel_rfl) (by simp) ?_
        refine AllReadyH.cons rfl (fun K hK => ?_) AllReadyH.nil
        refine step_store_row (by rfl) 34 (.tmp 6) (.tmp 17) (by rfl) (w1.heap.size) (ordA o) (by rfl) (by rfl) 34 _ ho (ordInfo _) (by rw [ordA_size]; rfl) (ordA_one _) ?_
        have hHeld := setRow_below (g := w1.heap.size) (cs := ordA o) hHeld hob
        have hm := (setRow_other _ (w1.heap.size) (wc.heap.size) (ordA o) (by have := hne; omega)).trans hm
        have ho := setRow_heap _ _ _ (ordA o) _ _ ho
        refine hK.out _ _ hHeld (fun hHeld => ?_)
        clear hK K
        refine wpAnyH_done (by kernel_rfl) ?_ _
        refine NoPanic.normal ?_
        exact ⟨rfl, _, _, rfl, hm, ho, hHeld⟩
      · go_simp
        have hHeld := hHeld.alloc hHeld.size (.cells #[Value.int IntKind.u64 0, Value.int IntKind.u64 0, Value.int IntKind.u64 0, Value.int IntKind.u64 0, Value.int IntKind.u64 0, Value.int IntKind.u64 0, Value.int IntKind.u64 0, Value.int IntKind.u64 0, Value.int IntKind.u64 0, Value.int IntKind.u64 0, Value.int IntKind.u64 0, Value.int IntKind.u64 0, Value.int IntKind.u64 0, Value.int IntKind.u64 0, Value.int IntKind.u64 0, Value.int IntKind.u64 0, Value.int IntKind.u64 0, Value.int IntKind.u64 0, Value.int IntKind.u64 0, Value.int IntKind.u64 0, Value.int IntKind.u64 0, Value.int IntKind.u64 0, Value.int IntKind.u64 0, Value.int IntKind.u64 0, Value.int IntKind.u64 0, Value.int IntKind.u64 0, Value.int IntKind.u64 0, Value.int IntKind.u64 0, Value.int IntKind.u64 0, Value.int IntKind.u64 0, Value.int IntKind.u64 0, Value.int IntKind.u64 0] 32)
        have ho := (Below.heap_alloc _ (.cells #[Value.int IntKind.u64 0, Value.int IntKind.u64 0, Value.int IntKind.u64 0, Value.int IntKind.u64 0, Value.int IntKind.u64 0, Value.int IntKind.u64 0, Value.int IntKind.u64 0, Value.int IntKind.u64 0, Value.int IntKind.u64 0, Value.int IntKind.u64 0, Value.int IntKind.u64 0, Value.int IntKind.u64 0, Value.int IntKind.u64 0, Value.int IntKind.u64 0, Value.int IntKind.u64 0, Value.int IntKind.u64 0, Value.int IntKind.u64 0, Value.int IntKind.u64 0, Value.int IntKind.u64 0, Value.int IntKind.u64 0, Value.int IntKind.u64 0, Value.int IntKind.u64 0, Value.int IntKind.u64 0, Value.int IntKind.u64 0, Value.int IntKind.u64 0, Value.int IntKind.u64 0, Value.int IntKind.u64 0, Value.int IntKind.u64 0, Value.int IntKind.u64 0, Value.int IntKind.u64 0, Value.int IntKind.u64 0, Value.int IntKind.u64 0] 32) _ (Array.getElem?_eq_some_iff.1 ho).1).trans ho
        have hm := heap_alloc2_new (w1.drew) (.cells #[Value.int IntKind.i64 0, Value.int IntKind.i64 0, Value.int IntKind.i64 0, Value.int IntKind.i64 0, Value.int IntKind.i64 0, Value.int IntKind.i64 0, Value.int IntKind.i64 0, Value.int IntKind.i64 0, Value.int IntKind.i64 0, Value.int IntKind.i64 0, Value.int IntKind.i64 0, Value.int IntKind.i64 0, Value.int IntKind.i64 0, Value.int IntKind.i64 0, Value.int IntKind.i64 0, Value.int IntKind.i64 0, Value.int IntKind.i64 0, Value.int IntKind.i64 0, Value.int IntKind.i64 0, Value.int IntKind.i64 0, Value.int IntKind.i64 0, Value.int IntKind.i64 0, Value.int IntKind.i64 0, Value.int IntKind.i64 0, Value.int IntKind.i64 0, Value.int IntKind.i64 0, Value.int IntKind.i64 0, Value.int IntKind.i64 0, Value.int IntKind.i64 0, Value.int IntKind.i64 0, Value.int IntKind.i64 0, Value.int IntKind.i64 0] 34) (.cells #[Value.int IntKind.u64 0, Value.int IntKind.u64 0, Value.int IntKind.u64 0, Value.int IntKind.u64 0, Value.int IntKind.u64 0, Value.int IntKind.u64 0, Value.int IntKind.u64 0, Value.int IntKind.u64 0, Value.int IntKind.u64 0, Value.int IntKind.u64 0, Value.int IntKind.u64 0, Value.int IntKind.u64 0, Value.int IntKind.u64 0, Value.int IntKind.u64 0, Value.int IntKind.u64 0, Value.int IntKind.u64 0, Value.int IntKind.u64 0, Value.int IntKind.u64 0, Value.int IntKind.u64 0, Value.int IntKind.u64 0, Value.int IntKind.u64 0, Value.int IntKind.u64 0, Value.int IntKind.u64 0, Value.int IntKind.u64 0, Value.int IntKind.u64 0, Value.int IntKind.u64 0, Value.int IntKind.u64 0, Value.int IntKind.u64 0, Value.int IntKind.u64 0, Value.int IntKind.u64 0, Value.int IntKind.u64 0, Value.int IntKind.u64 0] 32)
        refine hK.out _ _ hHeld (fun hHeld => ?_)
        clear hK K
        refine wpAnyH_ready (rs := [1]) (by kernel_rfl) (by simp) ?_
        refine AllReadyH.cons rfl (fun K hK => ?_) AllReadyH.nil
        go_simp
        refine (theirs_any m _).mono ?_
        rintro e wc ⟨rfl, hb⟩
        try go_simp
        have hHeld := hHeld.trans (hb.mono hHeld.size)
        have hm := (hb.block (w1.heap.size + 1) (by simp <;> omega)).trans hm
        have ho := (hb.block (w1.heap.size) (by simp <;> omega)).trans ho
        have hsz := hb.size
        have hsz0 := hHeld.size
        refine hK.out _ _ hHeld (fun hHeld => ?_)
        clear hK K hb
        have hmb : (w1).heap.size ≤ w1.heap.size + 1 := by first | omega | (simp at hsz; omega) | (simp at hsz hsz0; omega)
        have hob : (w1).heap.size ≤ w1.heap.size := by first | omega | (simp at hsz; omega) | (simp at hsz hsz0; omega)
        have hne : w1.heap.size + 1 ≠ w1.heap.size := by first | omega | (simp at hsz; omega) | (simp at hsz hsz0; omega)
        refine wpAnyH_ready (rs := [5]) (by kernel_rfl) (by simp) ?_
        refine AllReadyH.cons rfl (fun K hK => ?_) AllReadyH.nil
        refine step_store_row (by rfl) 32 (.tmp 5) (.tmp 16) (by rfl) (w1.heap.size + 1) (matA m) (by rfl) (by rfl) 32 _ hm (matInfo _) (by rw [matA_size]; rfl) (matA_one _) ?_
        have hHeld := setRow_below (g := w1.heap.size + 1) (cs := matA m) hHeld hmb
        have ho := (setRow_other _ (w1.heap.size + 1) (w1.heap.size) (matA m) (by have := hne; omega)).trans ho
        have hm := setRow_heap _ _ _ (matA m) _ _ hm
        refine hK.out _ _ hHeld (fun hHeld => ?_)
        clear hK K
        refine wpAnyH_ready (rs := [6]) (by kernel_rfl) (by simp) ?_
        refine AllReadyH.cons rfl (fun K hK => ?_) AllReadyH.nil
        refine step_store_row (by rfl) 34 (.tmp 6) (.tmp 17) (by rfl) (w1.heap.size) (ordA o) (by rfl) (by rfl) 34 _ ho (ordInfo _) (by rw [ordA_size]; rfl) (ordA_one _) ?_
        have hHeld := setRow_below (g := w1.heap.size) (cs := ordA o) hHeld hob
        have hm := (setRow_other _ (w1.heap.size) (w1.heap.size + 1) (ordA o) (by have := hne; omega)).trans hm
        have ho := setRow_heap _ _ _ (ordA o) _ _ ho
        refine hK.out _ _ hHeld (fun hHeld => ?_)
        clear hK K
        refine wpAnyH_done (by kernel_rfl) ?_ _
        refine NoPanic.normal ?_
        exact ⟨rfl, _, _, rfl, hm, ho, hHeld⟩
  · rintro e a' w' ⟨rfl, gm, go, rfl, hgm, hgo, hb⟩
    have HQ := Lib.hid (QSt.mk (HS1.out.below hb) hgm hgo)
    clear hgm hgo hb HS1
    go_wp2_with (refine wpList_load_row rfl 34 (.tmp 6) rfl go rfl 34 (ordA o) (0, 0) _ HQ.out.to Tryd.underlying34 rfl (ordInfo _) ?_)
    refine (row_no o _ HOk.out HNR.out).mono ?_
    rintro e w2 ⟨rfl, hb2⟩
    have HQ2 := Lib.hid (HQ.out.below hb2)
    clear hb2 HQ
    go_wp2
    go_loopw [8, 22] (SNil w m o gm go) (fun _ _ _ => 0)
    case atStart => exact ⟨rfl, rfl, HQ2.out⟩
    case round =>
      obtain ⟨rfl, rfl, hq⟩ := hrel
      have HQr := Lib.hid hq
      clear hq
      go_wp2
      refine wp_region_noPanic ?_
      refine region_start (S := QSt w m o gm go) 11 rfl (by kernel_rfl) (HQr.out.below (below_drew _)) (fun hHeld => ?_)
      refine take_at 0 51 (.agg (matA m)) rfl rfl (by kernel_rfl) (by kernel_rfl) (by kernel_rfl) (fun _ _ _ h => h) (yields_row (by rfl) 32 (.tmp 5) rfl (gm) rfl 32 (matA m) (fun W h => h.tm) Tryd.underlying32 (matInfo _)) hHeld ?_
      simp only [put_laws]
      refine take_at 1 52 (.agg (ordA o)) rfl rfl (by kernel_rfl) (by kernel_rfl) (by kernel_rfl) (fun _ _ _ h => h) (yields_row (by rfl) 34 (.tmp 6) rfl (go) rfl 34 (ordA o) (fun W h => h.to) Tryd.underlying34 (ordInfo _)) hHeld ?_
      simp only [put_laws]
      refine take_at 3 54 (.agg (ordA o)) rfl rfl (by kernel_rfl) (by kernel_rfl) (by kernel_rfl) (fun _ _ _ h => h) (yields_row (by rfl) 34 (.tmp 6) rfl (go) rfl 34 (ordA o) (fun W h => h.to) Tryd.underlying34 (ordInfo _)) hHeld ?_
      simp only [put_laws]
      refine wpAnyH_ready (rs := [2]) (by kernel_rfl) (by simp) ?_
      refine AllReadyH.cons rfl (fun K hK => ?_) AllReadyH.nil
      go_simp
      refine (sorted_val m o false _ hm HOk.out hHeld.ps.tab HSB.out).mono ?_
      rintro e wa ⟨rfl, hb⟩
      try go_simp
      have hHeld := hHeld.below hb
      refine hK.out _ _ hHeld (fun hHeld => ?_)
      clear hK K
      refine wpAnyH_ready (rs := [4]) (by kernel_rfl) (by simp) ?_
      refine AllReadyH.cons rfl (fun K hK => ?_) AllReadyH.nil
      go_simp
      refine (right_val o false _ HOk.out HRB.out).mono ?_
      rintro e wb ⟨rfl, hb⟩
      try go_simp
      have hHeld := hHeld.below hb
      refine hK.out _ _ hHeld (fun hHeld => ?_)
      clear hK K
      refine take_at 5 56 (.bool false) rfl rfl (by kernel_rfl) (by kernel_rfl) (by kernel_rfl) (fun _ _ _ h => h) (Or.inl ⟨by rfl, by intro W hW; clear hW; go_simp⟩) hHeld ?_
      simp only [put_laws]
      refine take_at 6 57 undef rfl rfl (by kernel_rfl) (by kernel_rfl) (by kernel_rfl) (fun _ _ _ h => h) (Or.inr ⟨by rfl, rfl⟩) hHeld ?_
      simp only [put_laws]
      refine take_at 7 58 undef rfl rfl (by kernel_rfl) (by kernel_rfl) (by kernel_rfl) (fun _ _ _ h => h) (Or.inr ⟨by rfl, rfl⟩) hHeld ?_
      simp only [put_laws]
      refine take_at 8 59 (.bool false) rfl rfl (by kernel_rfl) (by kernel_rfl) (by kernel_rfl) (fun _ _ _ h => h) (Or.inl ⟨by rfl, by intro W hW; clear hW; go_simp⟩) hHeld ?_
      simp only [put_laws]
      refine take_at 9 60 (.bool true) rfl rfl (by kernel_rfl) (by kernel_rfl) (by kernel_rfl) (fun _ _ _ h => h) (Or.inl ⟨by rfl, by intro W hW; clear hW; go_simp⟩) hHeld ?_
      simp only [put_laws]
      refine take_at 10 4 (.bool true) rfl rfl (by kernel_rfl) (by kernel_rfl) (by kernel_rfl) (fun _ _ _ h => h) (Or.inl ⟨by rfl, by intro W hW; clear hW; go_simp⟩) hHeld ?_
      simp only [put_laws]
      refine wpAnyH_done (by kernel_rfl) ?_ _
      refine NoPanic.normal ?_
      go_wp2
      go_ret
      exact ⟨rfl, hHeld.ps.bel⟩
set_option maxHeartbeats 4000000 in
set_option maxRecDepth 100000 in
theorem topoSorted_yes (m : Mm.Gr) (o : Od.O) (w : World) (hm : Mm.Ok m) (hr : Od.Right o) (hT : TabAt w) :
    Calls Tryd.prog 9 #[.agg (matA m), .agg (ordA o)] w fun e w' => e = .returned (.bool true) ∧ Below w.heap.size w w' := by
  have HP := Lib.hid (pst_first m o hT)
  have HR := Lib.hid hr
  have HOk := Lib.hid hr.ok
  have HRB := Lib.hid (Od.rightB_yes hr)
  have HSA := Lib.hid (dn_all (m := m) hr)
  clear hT hr
  go_enter Tryd.func9, Tryd.ntmps9
  go_wp2_with fail
  refine (alive_any _ HP.out.tab).mono ?_
  rintro e w1 ⟨rfl, hb1⟩
  have HS1 := Lib.hid (HP.out.below hb1)
  clear hb1 HP
  go_wp2_with fail
  refine wp_mono (Q := fun e a' w' => e = .normal ∧ (∃ gm go, a' = { tmps := #[.agg (matA m), .agg (ordA o), .pointer (some ⟨w.heap.size, 0, none⟩), .pointer (some ⟨w.heap.size + 1, 0, none⟩), .bool false, .pointer (some ⟨gm, 0, none⟩), .pointer (some ⟨go, 0, none⟩), undef, undef, undef, undef, undef, undef, .bool true, .bool false, .agg (matA m), .agg (matA m), .agg (ordA o), undef, undef, undef, undef, undef, undef, undef, undef, undef, undef, undef, undef, undef, undef, undef, undef, undef, undef, undef, undef, undef, undef, undef, undef, undef, undef, undef, undef, undef, undef, undef, undef, undef, undef, undef, undef, undef, undef, undef, undef, undef, undef, undef], defers := [] } ∧ MatAt w' gm m 32 ∧ OrdAt w' go o 34 ∧ Below (w1).heap.size (w1) w')) ?_ ?_
  · refine wp_region_noPanic ?_
    refine region_start (S := Below (w1).heap.size (w1)) 7 rfl (by kernel_rfl) (below_drew _) (fun hHeld => ?_)
    refine take_at 0 15 (.agg (matA m)) rfl rfl (by kernel_rfl) (by kernel_rfl) (by kernel_rfl) (fun _ _ _ h => h) (yields_row (by rfl) 24 (.tmp 2) rfl (w.heap.size) rfl 24 (matA m) (fun W h => (HS1.out.below h).gr) Tryd.underlying24 (rmatInfo _)) hHeld ?_
    simp only [put_laws]
    refine take_at 2 17 (.agg (ordA o)) rfl rfl (by kernel_rfl) (by kernel_rfl) (by kernel_rfl) (fun _ _ _ h => h) (yields_row (by rfl) 26 (.tmp 3) rfl (w.heap.size + 1) rfl 26 (ordA o) (fun W h => (HS1.out.below h).od) Tryd.underlying26 (rordInfo _)) hHeld ?_
    simp only [put_laws]
    refine wpAnyH_ready (rs := [1, 3, 4]) (by kernel_rfl) (by simp) ?_
    refine AllReadyH.cons rfl (fun K hK => ?_) (AllReadyH.cons rfl (fun K hK => ?_) (AllReadyH.cons rfl (fun K hK => ?_) AllReadyH.nil))
    · go_simp
      refine (theirs_any m _).mono ?_
      rintro e wc ⟨rfl, hb⟩
      try go_simp
      have hHeld := hHeld.trans (hb.mono hHeld.size)
      have hsz := hb.size
      have hsz0 := hHeld.size
      refine hK.out _ _ hHeld (fun hHeld => ?_)
      clear hK K hb
      refine wpAnyH_ready (rs := [3, 4]) (by kernel_rfl) (by simp) ?_
      refine AllReadyH.cons rfl (fun K hK => ?_) (AllReadyH.cons rfl (fun K hK => ?_) AllReadyH.nil)
      · go_simp
        have hHeld := hHeld.alloc hHeld.size (.cells #[Value.int IntKind.u64 0, Value.int IntKind.u64 0, Value.int IntKind.u64 0, Value.int IntKind.u64 0, Value.int IntKind.u64 0, Value.int IntKind.u64 0, Value.int IntKind.u64 0, Value.int IntKind.u64 0, Value.int IntKind.u64 0, Value.int IntKind.u64 0, Value.int IntKind.u64 0, Value.int IntKind.u64 0, Value.int IntKind.u64 0, Value.int IntKind.u64 0, Value.int IntKind.u64 0, Value.int IntKind.u64 0, Value.int IntKind.u64 0, Value.int IntKind.u64 0, Value.int IntKind.u64 0, Value.int IntKind.u64 0, Value.int IntKind.u64 0, Value.int IntKind.u64 0, Value.int IntKind.u64 0, Value.int IntKind.u64 0, Value.int IntKind.u64 0, Value.int IntKind.u64 0, Value.int IntKind.u64 0, Value.int IntKind.u64 0, Value.int IntKind.u64 0, Value.int IntKind.u64 0, Value.int IntKind.u64 0, Value.int IntKind.u64 0] 32)
        have hm := heap_alloc_new (wc) (.cells #[Value.int IntKind.u64 0, Value.int IntKind.u64 0, Value.int IntKind.u64 0, Value.int IntKind.u64 0, Value.int IntKind.u64 0, Value.int IntKind.u64 0, Value.int IntKind.u64 0, Value.int IntKind.u64 0, Value.int IntKind.u64 0, Value.int IntKind.u64 0, Value.int IntKind.u64 0, Value.int IntKind.u64 0, Value.int IntKind.u64 0, Value.int IntKind.u64 0, Value.int IntKind.u64 0, Value.int IntKind.u64 0, Value.int IntKind.u64 0, Value.int IntKind.u64 0, Value.int IntKind.u64 0, Value.int IntKind.u64 0, Value.int IntKind.u64 0, Value.int IntKind.u64 0, Value.int IntKind.u64 0, Value.int IntKind.u64 0, Value.int IntKind.u64 0, Value.int IntKind.u64 0, Value.int IntKind.u64 0, Value.int IntKind.u64 0, Value.int IntKind.u64 0, Value.int IntKind.u64 0, Value.int IntKind.u64 0, Value.int IntKind.u64 0] 32)
        refine hK.out _ _ hHeld (fun hHeld => ?_)
        clear hK K
        refine wpAnyH_ready (rs := [4]) (by kernel_rfl) (by simp) ?_
        refine AllReadyH.cons rfl (fun K hK => ?_) AllReadyH.nil
        go_simp
        have hHeld := hHeld.alloc hHeld.size (.cells #[Value.int IntKind.i64 0, Value.int IntKind.i64 0, Value.int IntKind.i64 0, Value.int IntKind.i64 0, Value.int IntKind.i64 0, Value.int IntKind.i64 0, Value.int IntKind.i64 0, Value.int IntKind.i64 0, Value.int IntKind.i64 0, Value.int IntKind.i64 0, Value.int IntKind.i64 0, Value.int IntKind.i64 0, Value.int IntKind.i64 0, Value.int IntKind.i64 0, Value.int IntKind.i64 0, Value.int IntKind.i64 0, Value.int IntKind.i64 0, Value.int IntKind.i64 0, Value.int IntKind.i64 0, Value.int IntKind.i64 0, Value.int IntKind.i64 0, Value.int IntKind.i64 0, Value.int IntKind.i64 0, Value.int IntKind.i64 0, Value.int IntKind.i64 0, Value.int IntKind.i64 0, Value.int IntKind.i64 0, Value.int IntKind.i64 0, Value.int IntKind.i64 0, Value.int IntKind.i64 0, Value.int IntKind.i64 0, Value.int IntKind.i64 0] 34)
        have hm := (Below.heap_alloc _ (.cells #[Value.int IntKind.i64 0, Value.int IntKind.i64 0, Value.int IntKind.i64 0, Value.int IntKind.i64 0, Value.int IntKind.i64 0, Value.int IntKind.i64 0, Value.int IntKind.i64 0, Value.int IntKind.i64 0, Value.int IntKind.i64 0, Value.int IntKind.i64 0, Value.int IntKind.i64 0, Value.int IntKind.i64 0, Value.int IntKind.i64 0, Value.int IntKind.i64 0, Value.int IntKind.i64 0, Value.int IntKind.i64 0, Value.int IntKind.i64 0, Value.int IntKind.i64 0, Value.int IntKind.i64 0, Value.int IntKind.i64 0, Value.int IntKind.i64 0, Value.int IntKind.i64 0, Value.int IntKind.i64 0, Value.int IntKind.i64 0, Value.int IntKind.i64 0, Value.int IntKind.i64 0, Value.int IntKind.i64 0, Value.int IntKind.i64 0, Value.int IntKind.i64 0, Value.int IntKind.i64 0, Value.int IntKind.i64 0, Value.int IntKind.i64 0] 34) _ (Array.getElem?_eq_some_iff.1 hm).1).trans hm
        have ho := heap_alloc2_new (wc) (.cells #[Value.int IntKind.u64 0, Value.int IntKind.u64 0, Value.int IntKind.u64 0, Value.int IntKind.u64 0, Value.int IntKind.u64 0, Value.int IntKind.u64 0, Value.int IntKind.u64 0, Value.int IntKind.u64 0, Value.int IntKind.u64 0, Value.int IntKind.u64 0, Value.int IntKind.u64 0, Value.int IntKind.u64 0, Value.int IntKind.u64 0, Value.int IntKind.u64 0, Value.int IntKind.u64 0, Value.int IntKind.u64 0, Value.int IntKind.u64 0, Value.int IntKind.u64 0, Value.int IntKind.u64 0, Value.int IntKind.u64 0, Value.int IntKind.u64 0, Value.int IntKind.u64 0, Value.int IntKind.u64 0, Value.int IntKind.u64 0, Value.int IntKind.u64 0, Value.int IntKind.u64 0, Value.int IntKind.u64 0, Value.int IntKind.u64 0, Value.int IntKind.u64 0, Value.int IntKind.u64 0, Value.int IntKind.u64 0, Value.int IntKind.u64 0] 32) (.cells #[Value.int IntKind.i64 0, Value.int IntKind.i64 0, Value.int IntKind.i64 0, Value.int IntKind.i64 0, Value.int IntKind.i64 0, Value.int IntKind.i64 0, Value.int IntKind.i64 0, Value.int IntKind.i64 0, Value.int IntKind.i64 0, Value.int IntKind.i64 0, Value.int IntKind.i64 0, Value.int IntKind.i64 0, Value.int IntKind.i64 0, Value.int IntKind.i64 0, Value.int IntKind.i64 0, Value.int IntKind.i64 0, Value.int IntKind.i64 0, Value.int IntKind.i64 0, Value.int IntKind.i64 0, Value.int IntKind.i64 0, Value.int IntKind.i64 0, Value.int IntKind.i64 0, Value.int IntKind.i64 0, Value.int IntKind.i64 0, Value.int IntKind.i64 0, Value.int IntKind.i64 0, Value.int IntKind.i64 0, Value.int IntKind.i64 0, Value.int IntKind.i64 0, Value.int IntKind.i64 0, Value.int IntKind.i64 0, Value.int IntKind.i64 0] 34)
        refine hK.out _ _ hHeld (fun hHeld => ?_)
        clear hK K
        have hmb : (w1).heap.size ≤ wc.heap.size := by first | omega | (simp at hsz; omega) | (simp at hsz hsz0; omega)
        have hob : (w1).heap.size ≤ wc.heap.size + 1 := by first | omega | (simp at hsz; omega) | (simp at hsz hsz0; omega)
        have hne : wc.heap.size ≠ wc.heap.size + 1 := by first | omega | (simp at hsz; omega) | (simp at hsz hsz0; omega)
        refine wpAnyH_ready (rs := [5]) (by kernel_rfl) (by simp) ?_
        refine AllReadyH.cons rfl (fun K hK => ?_) AllReadyH.nil
        refine step_store_row (by rfl) 32 (.tmp 5) (.tmp 16) (by rfl) (wc.heap.size) (matA m) (by rfl) (by rfl) 32 _ hm (matInfo _) (by rw [matA_size]; rfl) (matA_one _) ?_
        have hHeld := setRow_below (g := wc.heap.size) (cs := matA m) hHeld hmb
        have ho := (setRow_other _ (wc.heap.size) (wc.heap.size + 1) (matA m) (by have := hne; omega)).trans ho
        have hm := setRow_heap _ _ _ (matA m) _ _ hm
        refine hK.out _ _ hHeld (fun hHeld => ?_)
        clear hK K
        refine wpAnyH_ready (rs := [6]) (by kernel_rfl) (by simp) ?_
        refine AllReadyH.cons rfl (fun K hK => ?_) AllReadyH.nil
        refine step_store_row (by rfl) 34 (.tmp 6) (.tmp 17) (by rfl) (wc.heap.size + 1) (ordA o) (by rfl) (by rfl) 34 _ ho (ordInfo _) (by rw [ordA_size]; rfl) (ordA_one _) ?_
        have hHeld := setRow_below (g := wc.heap.size + 1) (cs := ordA o) hHeld hob
        have hm := (setRow_other _ (wc.heap.size + 1) (wc.heap.size) (ordA o) (by have := hne; omega)).trans hm
        have ho := setRow_heap _ _ _ (ordA o) _ _ ho
        refine hK.out _ _ hHeld (fun hHeld => ?_)
        clear hK K
        refine wpAnyH_done (by kernel_rfl) ?_ _
        refine NoPanic.normal ?_
        exact ⟨rfl, _, _, rfl, hm, ho, hHeld⟩
      · go_simp
        have hHeld := hHeld.alloc hHeld.size (.cells #[Value.int IntKind.i64 0, Value.int IntKind.i64 0, Value.int IntKind.i64 0, Value.int IntKind.i64 0, Value.int IntKind.i64 0, Value.int IntKind.i64 0, Value.int IntKind.i64 0, Value.int IntKind.i64 0, Value.int IntKind.i64 0, Value.int IntKind.i64 0, Value.int IntKind.i64 0, Value.int IntKind.i64 0, Value.int IntKind.i64 0, Value.int IntKind.i64 0, Value.int IntKind.i64 0, Value.int IntKind.i64 0, Value.int IntKind.i64 0, Value.int IntKind.i64 0, Value.int IntKind.i64 0, Value.int IntKind.i64 0, Value.int IntKind.i64 0, Value.int IntKind.i64 0, Value.int IntKind.i64 0, Value.int IntKind.i64 0, Value.int IntKind.i64 0, Value.int IntKind.i64 0, Value.int IntKind.i64 0, Value.int IntKind.i64 0, Value.int IntKind.i64 0, Value.int IntKind.i64 0, Value.int IntKind.i64 0, Value.int IntKind.i64 0] 34)
        have ho := heap_alloc_new (wc) (.cells #[Value.int IntKind.i64 0, Value.int IntKind.i64 0, Value.int IntKind.i64 0, Value.int IntKind.i64 0, Value.int IntKind.i64 0, Value.int IntKind.i64 0, Value.int IntKind.i64 0, Value.int IntKind.i64 0, Value.int IntKind.i64 0, Value.int IntKind.i64 0, Value.int IntKind.i64 0, Value.int IntKind.i64 0, Value.int IntKind.i64 0, Value.int IntKind.i64 0, Value.int IntKind.i64 0, Value.int IntKind.i64 0, Value.int IntKind.i64 0, Value.int IntKind.i64 0, Value.int IntKind.i64 0, Value.int IntKind.i64 0, Value.int IntKind.i64 0, Value.int IntKind.i64 0, Value.int IntKind.i64 0, Value.int IntKind.i64 0, Value.int IntKind.i64 0, Value.int IntKind.i64 0, Value.int IntKind.i64 0, Value.int IntKind.i64 0, Value.int IntKind.i64 0, Value.int IntKind.i64 0, Value.int IntKind.i64 0, Value.int IntKind.i64 0] 34)
        refine hK.out _ _ hHeld (fun hHeld => ?_)
        clear hK K
        refine wpAnyH_ready (rs := [3]) (by kernel_rfl) (by simp) ?_
        refine AllReadyH.cons rfl (fun K hK => ?_) AllReadyH.nil
        go_simp
        have hHeld := hHeld.alloc hHeld.size (.cells #[Value.int IntKind.u64 0, Value.int IntKind.u64 0, Value.int IntKind.u64 0, Value.int IntKind.u64 0, Value.int IntKind.u64 0, Value.int IntKind.u64 0, Value.int IntKind.u64 0, Value.int IntKind.u64 0, Value.int IntKind.u64 0, Value.int IntKind.u64 0, Value.int IntKind.u64 0, Value.int IntKind.u64 0, Value.int IntKind.u64 0, Value.int IntKind.u64 0, Value.int IntKind.u64 0, Value.int IntKind.u64 0, Value.int IntKind.u64 0, Value.int IntKind.u64 0, Value.int IntKind.u64 0, Value.int IntKind.u64 0, Value.int IntKind.u64 0, Value.int IntKind.u64 0, Value.int IntKind.u64 0, Value.int IntKind.u64 0, Value.int IntKind.u64 0, Value.int IntKind.u64 0, Value.int IntKind.u64 0, Value.int IntKind.u64 0, Value.int IntKind.u64 0, Value.int IntKind.u64 0, Value.int IntKind.u64 0, Value.int IntKind.u64 0] 32)
        have ho := (Below.heap_alloc _ (.cells #[Value.int IntKind.u64 0, Value.int IntKind.u64 0, Value.int IntKind.u64 0, Value.int IntKind.u64 0, Value.int IntKind.u64 0, Value.int IntKind.u64 0, Value.int IntKind.u64 0, Value.int IntKind.u64 0, Value.int IntKind.u64 0, Value.int IntKind.u64 0, Value.int IntKind.u64 0, Value.int IntKind.u64 0, Value.int IntKind.u64 0, Value.int IntKind.u64 0, Value.int IntKind.u64 0, Value.int IntKind.u64 0, Value.int IntKind.u64 0, Value.int IntKind.u64 0, Value.int IntKind.u64 0, Value.int IntKind.u64 0, Value.int IntKind.u64 0, Value.int IntKind.u64 0, Value.int IntKind.u64 0, Value.int IntKind.u64 0, Value.int IntKind.u64 0, Value.int IntKind.u64 0, Value.int IntKind.u64 0, Value.int IntKind.u64 0, Value.int IntKind.u64 0, Value.int IntKind.u64 0, Value.int IntKind.u64 0, Value.int IntKind.u64 0] 32) _ (Array.getElem?_eq_some_iff.1 ho).1).trans ho
        have hm := heap_alloc2_new (wc) (.cells #[Value.int IntKind.i64 0, Value.int IntKind.i64 0, Value.int IntKind.i64 0, Value.int IntKind.i64 0, Value.int IntKind.i64 0, Value.int IntKind.i64 0, Value.int IntKind.i64 0, Value.int IntKind.i64 0, Value.int IntKind.i64 0, Value.int IntKind.i64 0, Value.int IntKind.i64 0, Value.int IntKind.i64 0, Value.int IntKind.i64 0, Value.int IntKind.i64 0, Value.int IntKind.i64 0, Value.int IntKind.i64 0, Value.int IntKind.i64 0, Value.int IntKind.i64 0, Value.int IntKind.i64 0, Value.int IntKind.i64 0, Value.int IntKind.i64 0, Value.int IntKind.i64 0, Value.int IntKind.i64 0, Value.int IntKind.i64 0, Value.int IntKind.i64 0, Value.int IntKind.i64 0, Value.int IntKind.i64 0, Value.int IntKind.i64 0, Value.int IntKind.i64 0, Value.int IntKind.i64 0, Value.int IntKind.i64 0, Value.int IntKind.i64 0] 34) (.cells #[Value.int IntKind.u64 0, Value.int IntKind.u64 0, Value.int IntKind.u64 0, Value.int IntKind.u64 0, Value.int IntKind.u64 0, Value.int IntKind.u64 0, Value.int IntKind.u64 0, Value.int IntKind.u64 0, Value.int IntKind.u64 0, Value.int IntKind.u64 0, Value.int IntKind.u64 0, Value.int IntKind.u64 0, Value.int IntKind.u64 0, Value.int IntKind.u64 0, Value.int IntKind.u64 0, Value.int IntKind.u64 0, Value.int IntKind.u64 0, Value.int IntKind.u64 0, Value.int IntKind.u64 0, Value.int IntKind.u64 0, Value.int IntKind.u64 0, Value.int IntKind.u64 0, Value.int IntKind.u64 0, Value.int IntKind.u64 0, Value.int IntKind.u64 0, Value.int IntKind.u64 0, Value.int IntKind.u64 0, Value.int IntKind.u64 0, Value.int IntKind.u64 0, Value.int IntKind.u64 0, Value.int IntKind.u64 0, Value.int IntKind.u64 0] 32)
        refine hK.out _ _ hHeld (fun hHeld => ?_)
        clear hK K
        have hmb : (w1).heap.size ≤ wc.heap.size + 1 := by first | omega | (simp at hsz; omega) | (simp at hsz hsz0; omega)
        have hob : (w1).heap.size ≤ wc.heap.size := by first | omega | (simp at hsz; omega) | (simp at hsz hsz0; omega)
        have hne : wc.heap.size + 1 ≠ wc.heap.size := by first | omega | (simp at hsz; omega) | (simp at hsz hsz0; omega)
        refine wpAnyH_ready (rs := [5]) (by kernel_rfl) (by simp) ?_
        refine AllReadyH.cons rfl (fun K hK => ?_) AllReadyH.nil
        refine step_store_row (by rfl) 32 (.tmp 5) (.tmp 16) (by rfl) (wc.heap.size + 1) (matA m) (by rfl) (by rfl) 32 _ hm (matInfo _) (by rw [matA_size]; rfl) (matA_one _) ?_
        have hHeld := setRow_below (g := wc.heap.size + 1) (cs := matA m) hHeld hmb
        have ho := (setRow_other _ (wc.heap.size + 1) (wc.heap.size) (matA m) (by have := hne; omega)).trans ho
        have hm := setRow_heap _ _ _ (matA m) _ _ hm
        refine hK.out _ _ hHeld (fun hHeld => ?_)
        clear hK K
        refine wpAnyH_ready (rs := [6]) (by kernel_rfl) (by simp) ?_
        refine AllReadyH.cons rfl (fun K hK => ?_) AllReadyH.nil
        refine step_store_row (by rfl) 34 (.tmp 6) (.tmp 17) (by rfl) (wc.heap.size) (ordA o) (by rfl) (by rfl) 34 _ ho (ordInfo _) (by rw [ordA_size]; rfl) (ordA_one _) ?_
        have hHeld := setRow_below (g := wc.heap.size) (cs := ordA o) hHeld hob
        have hm := (setRow_other _ (wc.heap.size) (wc.heap.size + 1) (ordA o) (by have := hne; omega)).trans hm
        have ho := setRow_heap _ _ _ (ordA o) _ _ ho
        refine hK.out _ _ hHeld (fun hHeld => ?_)
        clear hK K
        refine wpAnyH_done (by kernel_rfl) ?_ _
        refine NoPanic.normal ?_
        exact ⟨rfl, _, _, rfl, hm, ho, hHeld⟩
    · go_simp
      have hHeld := hHeld.alloc hHeld.size (.cells #[Value.int IntKind.u64 0, Value.int IntKind.u64 0, Value.int IntKind.u64 0, Value.int IntKind.u64 0, Value.int IntKind.u64 0, Value.int IntKind.u64 0, Value.int IntKind.u64 0, Value.int IntKind.u64 0, Value.int IntKind.u64 0, Value.int IntKind.u64 0, Value.int IntKind.u64 0, Value.int IntKind.u64 0, Value.int IntKind.u64 0, Value.int IntKind.u64 0, Value.int IntKind.u64 0, Value.int IntKind.u64 0, Value.int IntKind.u64 0, Value.int IntKind.u64 0, Value.int IntKind.u64 0, Value.int IntKind.u64 0, Value.int IntKind.u64 0, Value.int IntKind.u64 0, Value.int IntKind.u64 0, Value.int IntKind.u64 0, Value.int IntKind.u64 0, Value.int IntKind.u64 0, Value.int IntKind.u64 0, Value.int IntKind.u64 0, Value.int IntKind.u64 0, Value.int IntKind.u64 0, Value.int IntKind.u64 0, Value.int IntKind.u64 0] 32)
      have hm := heap_alloc_new (w1.drew) (.cells #[Value.int IntKind.u64 0, Value.int IntKind.u64 0, Value.int IntKind.u64 0, Value.int IntKind.u64 0, Value.int IntKind.u64 0, Value.int IntKind.u64 0, Value.int IntKind.u64 0, Value.int IntKind.u64 0, Value.int IntKind.u64 0, Value.int IntKind.u64 0, Value.int IntKind.u64 0, Value.int IntKind.u64 0, Value.int IntKind.u64 0, Value.int IntKind.u64 0, Value.int IntKind.u64 0, Value.int IntKind.u64 0, Value.int IntKind.u64 0, Value.int IntKind.u64 0, Value.int IntKind.u64 0, Value.int IntKind.u64 0, Value.int IntKind.u64 0, Value.int IntKind.u64 0, Value.int IntKind.u64 0, Value.int IntKind.u64 0, Value.int IntKind.u64 0, Value.int IntKind.u64 0, Value.int IntKind.u64 0, Value.int IntKind.u64 0, Value.int IntKind.u64 0, Value.int IntKind.u64 0, Value.int IntKind.u64 0, Value.int IntKind.u64 0] 32)
      refine hK.out _ _ hHeld (fun hHeld => ?_)
      clear hK K
      refine wpAnyH_ready (rs := [1, 4]) (by kernel_rfl) (by simp) ?_
      refine AllReadyH.cons rfl (fun K hK => ?_) (AllReadyH.cons rfl (fun K hK => ?_) AllReadyH.nil)
      · go_simp
        refine (theirs_any m _).mono ?_
        rintro e wc ⟨rfl, hb⟩
        try go_simp
        have hHeld := hHeld.trans (hb.mono hHeld.size)
        have hm := (hb.block (w1.heap.size) (by simp <;> omega)).trans hm
        have hsz := hb.size
        have hsz0 := hHeld.size
        refine hK.out _ _ hHeld (fun hHeld => ?_)
        clear hK K hb
        refine wpAnyH_ready (rs := [4]) (by kernel_rfl) (by simp) ?_
        refine AllReadyH.cons rfl (fun K hK => ?_) AllReadyH.nil
        go_simp
        have hHeld := hHeld.alloc hHeld.size (.cells #[Value.int IntKind.i64 0, Value.int IntKind.i64 0, Value.int IntKind.i64 0, Value.int IntKind.i64 0, Value.int IntKind.i64 0, Value.int IntKind.i64 0, Value.int IntKind.i64 0, Value.int IntKind.i64 0, Value.int IntKind.i64 0, Value.int IntKind.i64 0, Value.int IntKind.i64 0, Value.int IntKind.i64 0, Value.int IntKind.i64 0, Value.int IntKind.i64 0, Value.int IntKind.i64 0, Value.int IntKind.i64 0, Value.int IntKind.i64 0, Value.int IntKind.i64 0, Value.int IntKind.i64 0, Value.int IntKind.i64 0, Value.int IntKind.i64 0, Value.int IntKind.i64 0, Value.int IntKind.i64 0, Value.int IntKind.i64 0, Value.int IntKind.i64 0, Value.int IntKind.i64 0, Value.int IntKind.i64 0, Value.int IntKind.i64 0, Value.int IntKind.i64 0, Value.int IntKind.i64 0, Value.int IntKind.i64 0, Value.int IntKind.i64 0] 34)
        have hm := (Below.heap_alloc _ (.cells #[Value.int IntKind.i64 0, Value.int IntKind.i64 0, Value.int IntKind.i64 0, Value.int IntKind.i64 0, Value.int IntKind.i64 0, Value.int IntKind.i64 0, Value.int IntKind.i64 0, Value.int IntKind.i64 0, Value.int IntKind.i64 0, Value.int IntKind.i64 0, Value.int IntKind.i64 0, Value.int IntKind.i64 0, Value.int IntKind.i64 0, Value.int IntKind.i64 0, Value.int IntKind.i64 0, Value.int IntKind.i64 0, Value.int IntKind.i64 0, Value.int IntKind.i64 0, Value.int IntKind.i64 0, Value.int IntKind.i64 0, Value.int IntKind.i64 0, Value.int IntKind.i64 0, Value.int IntKind.i64 0, Value.int IntKind.i64 0, Value.int IntKind.i64 0, Value.int IntKind.i64 0, Value.int IntKind.i64 0, Value.int IntKind.i64 0, Value.int IntKind.i64 0, Value.int IntKind.i64 0, Value.int IntKind.i64 0, Value.int IntKind.i64 0] 34) _ (Array.getElem?_eq_some_iff.1 hm).1).trans hm
        have ho := heap_alloc_new (wc) (.cells #[Value.int IntKind.i64 0, Value.int IntKind.i64 0, Value.int IntKind.i64 0, Value.int IntKind.i64 0, Value.int IntKind.i64 0, Value.int IntKind.i64 0, Value.int IntKind.i64 0, Value.int IntKind.i64 0, Value.int IntKind.i64 0, Value.int IntKind.i64 0, Value.int IntKind.i64 0, Value.int IntKind.i64 0, Value.int IntKind.i64 0, Value.int IntKind.i64 0, Value.int IntKind.i64 0, Value.int IntKind.i64 0, Value.int IntKind.i64 0, Value.int IntKind.i64 0, Value.int IntKind.i64 0, Value.int IntKind.i64 0, Value.int IntKind.i64 0, Value.int IntKind.i64 0, Value.int IntKind.i64 0, Value.int IntKind.i64 0, Value.int IntKind.i64 0, Value.int IntKind.i64 0, Value.int IntKind.i64 0, Value.int IntKind.i64 0, Value.int IntKind.i64 0, Value.int IntKind.i64 0, Value.int IntKind.i64 0, Value.int IntKind.i64 0] 34)
        refine hK.out _ _ hHeld (fun hHeld => ?_)
        clear hK K
        have hmb : (w1).heap.size ≤ w1.heap.size := by first | omega | (simp at hsz; omega) | (simp at hsz hsz0; omega)
        have hob : (w1).heap.size ≤ wc.heap.size := by first | omega | (simp at hsz; omega) | (simp at hsz hsz0; omega)
        have hne : w1.heap.size ≠ wc.heap.size := by first | omega | (simp at hsz; omega) | (simp at hsz hsz0; omega)
        refine wpAnyH_ready (rs := [5]) (by kernel_rfl) (by simp) ?_
        refine AllReadyH.cons rfl (fun K hK => ?_) AllReadyH.nil
        refine step_store_row (by rfl) 32 (.tmp 5) (.tmp 16) (by rfl) (w1.heap.size) (matA m) (by rfl) (by rfl) 32 _ hm (matInfo _) (by rw [matA_size]; rfl) (matA_one _) ?_
        have hHeld := setRow_below (g := w1.heap.size) (cs := matA m) hHeld hmb
        have ho := (setRow_other _ (w1.heap.size) (wc.heap.size) (matA m) (by have := hne; omega)).trans ho
        have hm := setRow_heap _ _ _ (matA m) _ _ hm
        refine hK.out _ _ hHeld (fun hHeld => ?_)
        clear hK K
        refine wpAnyH_ready (rs := [6]) (by kernel_rfl) (by simp) ?_
        refine AllReadyH.cons rfl (fun K hK => ?_) AllReadyH.nil
        refine step_store_row (by rfl) 34 (.tmp 6) (.tmp 17) (by rfl) (wc.heap.size) (ordA o) (by rfl) (by rfl) 34 _ ho (ordInfo _) (by rw [ordA_size]; rfl) (ordA_one _) ?_
        have hHeld := setRow_below (g := wc.heap.size) (cs := ordA o) hHeld hob
        have hm := (setRow_other _ (wc.heap.size) (w1.heap.size) (ordA o) (by have := hne; omega)).trans hm
        have ho := setRow_heap _ _ _ (ordA o) _ _ ho
        refine hK.out _ _ hHeld (fun hHeld => ?_)
        clear hK K
        refine wpAnyH_done (by kernel_rfl) ?_ _
        refine NoPanic.normal ?_
        exact ⟨rfl, _, _, rfl, hm, ho, hHeld⟩
      · go_simp
        have hHeld := hHeld.alloc hHeld.size (.cells #[Value.int IntKind.i64 0, Value.int IntKind.i64 0, Value.int IntKind.i64 0, Value.int IntKind.i64 0, Value.int IntKind.i64 0, Value.int IntKind.i64 0, Value.int IntKind.i64 0, Value.int IntKind.i64 0, Value.int IntKind.i64 0, Value.int IntKind.i64 0, Value.int IntKind.i64 0, Value.int IntKind.i64 0, Value.int IntKind.i64 0, Value.int IntKind.i64 0, Value.int IntKind.i64 0, Value.int IntKind.i64 0, Value.int IntKind.i64 0, Value.int IntKind.i64 0, Value.int IntKind.i64 0, Value.int IntKind.i64 0, Value.int IntKind.i64 0, Value.int IntKind.i64 0, Value.int IntKind.i64 0, Value.int IntKind.i64 0, Value.int IntKind.i64 0, Value.int IntKind.i64 0, Value.int IntKind.i64 0, Value.int IntKind.i64 0, Value.int IntKind.i64 0, Value.int IntKind.i64 0, Value.int IntKind.i64 0, Value.int IntKind.i64 0] 34)
        have hm := (Below.heap_alloc _ (.cells #[Value.int IntKind.i64 0, Value.int IntKind.i64 0, Value.int IntKind.i64 0, Value.int IntKind.i64 0, Value.int IntKind.i64 0, Value.int IntKind.i64 0, Value.int IntKind.i64 0, Value.int IntKind.i64 0, Value.int IntKind.i64 0, Value.int IntKind.i64 0, Value.int IntKind.i64 0, Value.int IntKind.i64 0, Value.int IntKind.i64 0, Value.int IntKind.i64 0, Value.int IntKind.i64 0, Value.int IntKind.i64 0, Value.int IntKind.i64 0, Value.int IntKind.i64 0, Value.int IntKind.i64 0, Value.int IntKind.i64 0, Value.int IntKind.i64 0, Value.int IntKind.i64 0, Value.int IntKind.i64 0, Value.int IntKind.i64 0, Value.int IntKind.i64 0, Value.int IntKind.i64 0, Value.int IntKind.i64 0, Value.int IntKind.i64 0, Value.int IntKind.i64 0, Value.int IntKind.i64 0, Value.int IntKind.i64 0, Value.int IntKind.i64 0] 34) _ (Array.getElem?_eq_some_iff.1 hm).1).trans hm
        have ho := heap_alloc2_new (w1.drew) (.cells #[Value.int IntKind.u64 0, Value.int IntKind.u64 0, Value.int IntKind.u64 0, Value.int IntKind.u64 0, Value.int IntKind.u64 0, Value.int IntKind.u64 0, Value.int IntKind.u64 0, Value.int IntKind.u64 0, Value.int IntKind.u64 0, Value.int IntKind.u64 0, Value.int IntKind.u64 0, Value.int IntKind.u64 0, Value.int IntKind.u64 0, Value.int IntKind.u64 0, Value.int IntKind.u64 0, Value.int IntKind.u64 0, Value.int IntKind.u64 0, Value.int IntKind.u64 0, Value.int IntKind.u64 0, Value.int IntKind.u64 0, Value.int IntKind.u64 0, Value.int IntKind.u64 0, Value.int IntKind.u64 0, Value.int IntKind.u64 0, Value.int IntKind.u64 0, Value.int IntKind.u64 0, Value.int IntKind.u64 0, Value.int IntKind.u64 0, Value.int IntKind.u64 0, Value.int IntKind.u64 0, Value.int IntKind.u64 0, Value.int IntKind.u64 0] 32) (.cells #[Value.int IntKind.i64 0, Value.int IntKind.i64 0, Value.int IntKind.i64 0, Value.int IntKind.i64 0, Value.int IntKind.i64 0, Value.int IntKind.i64 0, Value.int IntKind.i64 0, Value.int IntKind.i64 0, Value.int IntKind.i64 0, Value.int IntKind.i64 0, Value.int IntKind.i64 0, Value.int IntKind.i64 0, Value.int IntKind.i64 0, Value.int IntKind.i64 0, Value.int IntKind.i64 0, Value.int IntKind.i64 0, Value.int IntKind.i64 0, Value.int IntKind.i64 0, Value.int IntKind.i64 0, Value.int IntKind.i64 0, Value.int IntKind.i64 0, Value.int IntKind.i64 0, Value.int IntKind.i64 0, Value.int IntKind.i64 0, Value.int IntKind.i64 0, Value.int IntKind.i64 0, Value.int IntKind.i64 0, Value.int IntKind.i64 0, Value.int IntKind.i64 0, Value.int IntKind.i64 0, Value.int IntKind.i64 0, Value.int IntKind.i64 0] 34)
        refine hK.out _ _ hHeld (fun hHeld => ?_)
        clear hK K
        refine wpAnyH_ready (rs := [1]) (by kernel_rfl) (by simp) ?_
        refine AllReadyH.cons rfl (fun K hK => ?_) AllReadyH.nil
        go_simp
        refine (theirs_any m _).mono ?_
        rintro e wc ⟨rfl, hb⟩
        try go_simp
        have hHeld := hHeld.trans (hb.mono hHeld.size)
        have hm := (hb.block (w1.heap.size) (by simp <;> omega)).trans hm
        have ho := (hb.block (w1.heap.size + 1) (by simp <;> omega)).trans ho
        have hsz := hb.size
        have hsz0 := hHeld.size
        refine hK.out _ _ hHeld (fun hHeld => ?_)
        clear hK K hb
        have hmb : (w1).heap.size ≤ w1.heap.size := by first | omega | (simp at hsz; omega) | (simp at hsz hsz0; omega)
        have hob : (w1).heap.size ≤ w1.heap.size + 1 := by first | omega | (simp at hsz; omega) | (simp at hsz hsz0; omega)
        have hne : w1.heap.size ≠ w1.heap.size + 1 := by first | omega | (simp at hsz; omega) | (simp at hsz hsz0; omega)
        refine wpAnyH_ready (rs := [5]) (by kernel_rfl) (by simp) ?_
        refine AllReadyH.cons rfl (fun K hK => ?_) AllReadyH.nil
        refine step_store_row (by rfl) 32 (.tmp 5) (.tmp 16) (by rfl) (w1.heap.size) (matA m) (by rfl) (by rfl) 32 _ hm (matInfo _) (by rw [matA_size]; rfl) (matA_one _) ?_
        have hHeld := setRow_below (g := w1.heap.size) (cs := matA m) hHeld hmb
        have ho := (setRow_other _ (w1.heap.size) (w1.heap.size + 1) (matA m) (by have := hne; omega)).trans ho
        have hm := setRow_heap _ _ _ (matA m) _ _ hm
        refine hK.out _ _ hHeld (fun hHeld => ?_)
        clear hK K
        refine wpAnyH_ready (rs := [6]) (by kernel_rfl) (by simp) ?_
        refine AllReadyH.cons rfl (fun K hK => ?_) AllReadyH.nil
        refine step_store_row (by rfl) 34 (.tmp 6) (.tmp 17) (by rfl) (w1.heap.size + 1) (ordA o) (by rfl) (by rfl) 34 _ ho (ordInfo _) (by rw [ordA_size]; rfl) (ordA_one _) ?_
        have hHeld := setRow_below (g := w1.heap.size + 1) (cs := ordA o) hHeld hob
        have hm := (setRow_other _ (w1.heap.size + 1) (w1.heap.size) (ordA o) (by have := hne; omega)).trans hm
        have ho := setRow_heap _ _ _ (ordA o) _ _ ho
        refine hK.out _ _ hHeld (fun hHeld => ?_)
        clear hK K
        refine wpAnyH_done (by kernel_rfl) ?_ _
        refine NoPanic.normal ?_
        exact ⟨rfl, _, _, rfl, hm, ho, hHeld⟩
    · go_simp
      have hHeld := hHeld.alloc hHeld.size (.cells #[Value.int IntKind.i64 0, Value.int IntKind.i64 0, Value.int IntKind.i64 0, Value.int IntKind.i64 0, Value.int IntKind.i64 0, Value.int IntKind.i64 0, Value.int IntKind.i64 0, Value.int IntKind.i64 0, Value.int IntKind.i64 0, Value.int IntKind.i64 0, Value.int IntKind.i64 0, Value.int IntKind.i64 0, Value.int IntKind.i64 0, Value.int IntKind.i64 0, Value.int IntKind.i64 0, Value.int IntKind.i64 0, Value.int IntKind.i64 0, Value.int IntKind.i64 0, Value.int IntKind.i64 0, Value.int IntKind.i64 0, Value.int IntKind.i64 0, Value.int IntKind.i64 0, Value.int IntKind.i64 0, Value.int IntKind.i64 0, Value.int IntKind.i64 0, Value.int IntKind.i64 0, Value.int IntKind.i64 0, Value.int IntKind.i64 0, Value.int IntKind.i64 0, Value.int IntKind.i64 0, Value.int IntKind.i64 0, Value.int IntKind.i64 0] 34)
      have ho := heap_alloc_new (w1.drew) (.cells #[Value.int IntKind.i64 0, Value.int IntKind.i64 0, Value.int IntKind.i64 0, Value.int IntKind.i64 0, Value.int IntKind.i64 0, Value.int IntKind.i64 0, Value.int IntKind.i64 0, Value.int IntKind.i64 0, Value.int IntKind.i64 0, Value.int IntKind.i64 0, Value.int IntKind.i64 0, Value.int IntKind.i64 0, Value.int IntKind.i64 0, Value.int IntKind.i64 0, Value.int IntKind.i64 0, Value.int IntKind.i64 0, Value.int IntKind.i64 0, Value.int IntKind.i64 0, Value.int IntKind.i64 0, Value.int IntKind.i64 0, Value.int IntKind.i64 0, Value.int IntKind.i64 0, Value.int IntKind.i64 0, Value.int IntKind.i64 0, Value.int IntKind.i64 0, Value.int IntKind.i64 0, Value.int IntKind.i64 0, Value.int IntKind.i64 0, Value.int IntKind.i64 0, Value.int IntKind.i64 0, Value.int IntKind.i64 0, Value.int IntKind.i64 0] 34)
      refine hK.out _ _ hHeld (fun hHeld => ?_)
      clear hK K
      refine wpAnyH_ready (rs := [1, 3]) (by kernel_rfl) (by simp) ?_
      refine AllReadyH.cons rfl (fun K hK => ?_) (AllReadyH.cons rfl (fun K hK => ?_) AllReadyH.nil)
      · go_simp
        refine (theirs_any m _).mono ?_
        rintro e wc ⟨rfl, hb⟩
        try go_simp
        have hHeld := hHeld.trans (hb.mono hHeld.size)
        have ho := (hb.block (w1.heap.size) (by simp <;> omega)).trans ho
        have hsz := hb.size
        have hsz0 := hHeld.size
        refine hK.out _ _ hHeld (fun hHeld => ?_)
        clear hK K hb
        refine wpAnyH_ready (rs := [3]) (by kernel_rfl) (by simp) ?_
        refine AllReadyH.cons rfl (fun K hK => ?_) AllReadyH.nil
        go_simp
        have hHeld := hHeld.alloc hHeld.size (.cells #[Value.int IntKind.u64 0, Value.int IntKind.u64 0, Value.int IntKind.u64 0, Value.int IntKind.u64 0, Value.int IntKind.u64 0, Value.int IntKind.u64 0, Value.int IntKind.u64 0, Value.int IntKind.u64 0, Value.int IntKind.u64 0, Value.int IntKind.u64 0, Value.int IntKind.u64 0, Value.int IntKind.u64 0, Value.int IntKind.u64 0, Value.int IntKind.u64 0, Value.int IntKind.u64 0, Value.int IntKind.u64 0, Value.int IntKind.u64 0, Value.int IntKind.u64 0, Value.int IntKind.u64 0, Value.int IntKind.u64 0, Value.int IntKind.u64 0, Value.int IntKind.u64 0, Value.int IntKind.u64 0, Value.int IntKind.u64 0, Value.int IntKind.u64 0, Value.int IntKind.u64 0, Value.int IntKind.u64 0, Value.int IntKind.u64 0, Value.int IntKind.u64 0, Value.int IntKind.u64 0, Value.int IntKind.u64 0, Value.int IntKind.u64 0] 32)
        have ho := (Below.heap_alloc _ (.cells #[Value.int IntKind.u64 0, Value.int IntKind.u64 0, Value.int IntKind.u64 0, Value.int IntKind.u64 0, Value.int IntKind.u64 0, Value.int IntKind.u64 0, Value.int IntKind.u64 0, Value.int IntKind.u64 0, Value.int IntKind.u64 0, Value.int IntKind.u64 0, Value.int IntKind.u64 0, Value.int IntKind.u64 0, Value.int IntKind.u64 0, Value.int IntKind.u64 0, Value.int IntKind.u64 0, Value.int IntKind.u64 0, Value.int IntKind.u64 0, Value.int IntKind.u64 0, Value.int IntKind.u64 0, Value.int IntKind.u64 0, Value.int IntKind.u64 0, Value.int IntKind.u64 0, Value.int IntKind.u64 0, Value.int IntKind.u64 0, Value.int IntKind.u64 0, Value.int IntKind.u64 0, Value.int IntKind.u64 0, Value.int IntKind.u64 0, Value.int IntKind.u64 0, Value.int IntKind.u64 0, Value.int IntKind.u64 0, Value.int IntKind.u64 0] 32) _ (Array.getElem?_eq_some_iff.1 ho).1).trans ho
        have hm := heap_alloc_new (wc) (.cells #[Value.int IntKind.u64 0, Value.int IntKind.u64 0, Value.int IntKind.u64 0, Value.int IntKind.u64 0, Value.int IntKind.u64 0, Value.int IntKind.u64 0, Value.int IntKind.u64 0, Value.int IntKind.u64 0, Value.int IntKind.u64 0, Value.int IntKind.u64 0, Value.int IntKind.u64 0, Value.int IntKind.u64 0, Value.int IntKind.u64 0, Value.int IntKind.u64 0, Value.int IntKind.u64 0, Value.int IntKind.u64 0, Value.int IntKind.u64 0, Value.int IntKind.u64 0, Value.int IntKind.u64 0, Value.int IntKind.u64 0, Value.int IntKind.u64 0, Value.int IntKind.u64 0, Value.int IntKind.u64 0, Value.int IntKind.u64 0, Value.int IntKind.u64 0, Value.int IntKind.u64 0, Value.int IntKind.u64 0, Value.int IntKind.u64 0, Value.int IntKind.u64 0, Value.int IntKind.u64 0, Value.int IntKind.u64 0, Value.int IntKind.u64 0] 32)
        refine hK.out _ _ hHeld (fun hHeld => ?_)
        clear hK K
        have hmb : (w1).heap.size ≤ wc.heap.size := by first | omega | (simp at hsz; omega) | (simp at hsz hsz0; omega)
        have hob : (w1).heap.size ≤ w1.heap.size := by first | omega | (simp at hsz; omega) | (simp at hsz hsz0; omega)
        have hne : wc.heap.size ≠ w1.heap.size := by first | omega | (simp at hsz; omega) | (simp at hsz hsz0; omega)
        refine wpAnyH_ready (rs := [5]) (by kernel_rfl) (by simp) ?_
        refine AllReadyH.cons rfl (fun K hK => ?_) AllReadyH.nil
        refine step_store_row (by rfl) 32 (.tmp 5) (.tmp 16) (by rfl) (wc.heap.size) (matA m) (by rfl) (by rfl) 32 _ hm (matInfo _) (by rw [matA_size]; rfl) (matA_one _) ?_
        have hHeld := setRow_below (g := wc.heap.size) (cs := matA m) hHeld hmb
        have ho := (setRow_other _ (wc.heap.size) (w1.heap.size) (matA m) (by have := hne; omega)).trans ho
        have hm := setRow_heap _ _ _ (matA m) _ _ hm
        refine hK.out _ _ hHeld (fun hHeld => ?_)
        clear hK K
        refine wpAnyH_ready (rs := [6]) (by kernel_rfl) (by simp) ?_
        refine AllReadyH.cons rfl (fun K hK => ?_) AllReadyH.nil
        refine step_store_row (by rfl) 34 (.tmp 6) (.tmp 17) (by rfl) (w1.heap.size) (ordA o) (by rfl) (by rfl) 34 _ ho (ordInfo _) (by rw [ordA_size]; rfl) (ordA_one _) ?_
        have hHeld := setRow_below (g := w1.heap.size) (cs := ordA o) hHeld hob
        have hm := (setRow_other _ (w1.heap.size) (wc.heap.size) (ordA o) (by have := hne; omega)).trans hm
        have ho := setRow_heap _ _ _ (ordA o) _ _ ho
        refine hK.out _ _ hHeld (fun hHeld => ?_)
        clear hK K
        refine wpAnyH_done (by kernel_rfl) ?_ _
        refine NoPanic.normal ?_
        exact ⟨rfl, _, _, rfl, hm, ho, hHeld⟩
      · go_simp
        have hHeld := hHeld.alloc hHeld.size (.cells #[Value.int IntKind.u64 0, Value.int IntKind.u64 0, Value.int IntKind.u64 0, Value.int IntKind.u64 0, Value.int IntKind.u64 0, Value.int IntKind.u64 0, Value.int IntKind.u64 0, Value.int IntKind.u64 0, Value.int IntKind.u64 0, Value.int IntKind.u64 0, Value.int IntKind.u64 0, Value.int IntKind.u64 0, Value.int IntKind.u64 0, Value.int IntKind.u64 0, Value.int IntKind.u64 0, Value.int IntKind.u64 0, Value.int IntKind.u64 0, Value.int IntKind.u64 0, Value.int IntKind.u64 0, Value.int IntKind.u64 0, Value.int IntKind.u64 0, Value.int IntKind.u64 0, Value.int IntKind.u64 0, Value.int IntKind.u64 0, Value.int IntKind.u64 0, Value.int IntKind.u64 0, Value.int IntKind.u64 0, Value.int IntKind.u64 0, Value.int IntKind.u64 0, Value.int IntKind.u64 0, Value.int IntKind.u64 0, Value.int IntKind.u64 0] 32)
        have ho := (Below.heap_alloc _ (.cells #[Value.int IntKind.u64 0, Value.int IntKind.u64 0, Value.int IntKind.u64 0, Value.int IntKind.u64 0, Value.int IntKind.u64 0, Value.int IntKind.u64 0, Value.int IntKind.u64 0, Value.int IntKind.u64 0, Value.int IntKind.u64 0, Value.int IntKind.u64 0, Value.int IntKind.u64 0, Value.int IntKind.u64 0, Value.int IntKind.u64 0, Value.int IntKind.u64 0, Value.int IntKind.u64 0, Value.int IntKind.u64 0, Value.int IntKind.u64 0, Value.int IntKind.u64 0, Value.int IntKind.u64 0, Value.int IntKind.u64 0, Value.int IntKind.u64 0, Value.int IntKind.u64 0, Value.int IntKind.u64 0, Value.int IntKind.u64 0, Value.int IntKind.u64 0, Value.int IntKind.u64 0, Value.int IntKind.u64 0, Value.int IntKind.u64 0, Value.int IntKind.u64 0, Value.int IntKind.u64 0, Value.int IntKind.u64 0, Value.int IntKind.u64 0] 32) _ (Array.getElem?_eq_some_iff.1 ho).1).trans ho
        have hm := heap_alloc2_new (w1.drew) (.cells #[Value.int IntKind.i64 0, Value.int IntKind.i64 0, Value.int IntKind.i64 0, Value.int IntKind.i64 0, Value.int IntKind.i64 0, Value.int IntKind.i64 0, Value.int IntKind.i64 0, Value.int IntKind.i64 0, Value.int IntKind.i64 0, Value.int IntKind.i64 0, Value.int IntKind.i64 0, Value.int IntKind.i64 0, Value.int IntKind.i64 0, Value.int IntKind.i64 0, Value.int IntKind.i64 0, Value.int IntKind.i64 0, Value.int IntKind.i64 0, Value.int IntKind.i64 0, Value.int IntKind.i64 0, Value.int IntKind.i64 0, Value.int IntKind.i64 0, Value.int IntKind.i64 0, Value.int IntKind.i64 0, Value.int IntKind.i64 0, Value.int IntKind.i64 0, Value.int IntKind.i64 0, Value.int IntKind.i64 0, Value.int IntKind.i64 0, Value.int IntKind.i64 0, Value.int IntKind.i64 0, Value.int IntKind.i64 0, Value.int IntKind.i64 0] 34) (.cells #[Value.int IntKind.u64 0, Value.int IntKind.u64 0, Value.int IntKind.u64 0, Value.int IntKind.u64 0, Value.int IntKind.u64 0, Value.int IntKind.u64 0, Value.int IntKind.u64 0, Value.int IntKind.u64 0, Value.int IntKind.u64 0, Value.int IntKind.u64 0, Value.int IntKind.u64 0, Value.int IntKind.u64 0, Value.int IntKind.u64 0, Value.int IntKind.u64 0, Value.int IntKind.u64 0, Value.int IntKind.u64 0, Value.int IntKind.u64 0, Value.int IntKind.u64 0, Value.int IntKind.u64 0, Value.int IntKind.u64 0, Value.int IntKind.u64 0, Value.int IntKind.u64 0, Value.int IntKind.u64 0, Value.int IntKind.u64 0, Value.int IntKind.u64 0, Value.int IntKind.u64 0, Value.int IntKind.u64 0, Value.int IntKind.u64 0, Value.int IntKind.u64 0, Value.int IntKind.u64 0, Value.int IntKind.u64 0, Value.int IntKind.u64 0] 32)
        refine hK.out _ _ hHeld (fun hHeld => ?_)
        clear hK K
        refine wpAnyH_ready (rs := [1]) (by kernel_rfl) (by simp) ?_
        refine AllReadyH.cons rfl (fun K hK => ?_) AllReadyH.nil
        go_simp
        refine (theirs_any m _).mono ?_
        rintro e wc ⟨rfl, hb⟩
        try go_simp
        have hHeld := hHeld.trans (hb.mono hHeld.size)
        have hm := (hb.block (w1.heap.size + 1) (by simp <;> omega)).trans hm
        have ho := (hb.block (w1.heap.size) (by simp <;> omega)).trans ho
        have hsz := hb.size
        have hsz0 := hHeld.size
        refine hK.out _ _ hHeld (fun hHeld => ?_)
        clear hK K hb
        have hmb : (w1).heap.size ≤ w1.heap.size + 1 := by first | omega | (simp at hsz; omega) | (simp at hsz hsz0; omega)
        have hob : (w1).heap.size ≤ w1.heap.size := by first | omega | (simp at hsz; omega) | (simp at hsz hsz0; omega)
        have hne : w1.heap.size + 1 ≠ w1.heap.size := by first | omega | (simp at hsz; omega) | (simp at hsz hsz0; omega)
        refine wpAnyH_ready (rs := [5]) (by kernel_rfl) (by simp) ?_
        refine AllReadyH.cons rfl (fun K hK => ?_) AllReadyH.nil
        refine step_store_row (by rfl) 32 (.tmp 5) (.tmp 16) (by rfl) (w1.heap.size + 1) (matA m) (by rfl) (by rfl) 32 _ hm (matInfo _) (by rw [matA_size]; rfl) (matA_one _) ?_
        have hHeld := setRow_below (g := w1.heap.size + 1) (cs := matA m) hHeld hmb
        have ho := (setRow_other _ (w1.heap.size + 1) (w1.heap.size) (matA m) (by have := hne; omega)).trans ho
        have hm := setRow_heap _ _ _ (matA m) _ _ hm
        refine hK.out _ _ hHeld (fun hHeld => ?_)
        clear hK K
        refine wpAnyH_ready (rs := [6]) (by kernel_rfl) (by simp) ?_
        refine AllReadyH.cons rfl (fun K hK => ?_) AllReadyH.nil
        refine step_store_row (by rfl) 34 (.tmp 6) (.tmp 17) (by rfl) (w1.heap.size) (ordA o) (by rfl) (by rfl) 34 _ ho (ordInfo _) (by rw [ordA_size]; rfl) (ordA_one _) ?_
        have hHeld := setRow_below (g := w1.heap.size) (cs := ordA o) hHeld hob
        have hm := (setRow_other _ (w1.heap.size) (w1.heap.size + 1) (ordA o) (by have := hne; omega)).trans hm
        have ho := setRow_heap _ _ _ (ordA o) _ _ ho
        refine hK.out _ _ hHeld (fun hHeld => ?_)
        clear hK K
        refine wpAnyH_done (by kernel_rfl) ?_ _
        refine NoPanic.normal ?_
        exact ⟨rfl, _, _, rfl, hm, ho, hHeld⟩
  · rintro e a' w' ⟨rfl, gm, go, rfl, hgm, hgo, hb⟩
    have HQ := Lib.hid (QSt.mk (HS1.out.below hb) hgm hgo)
    clear hgm hgo hb HS1
    go_wp2_with (refine wpList_load_row rfl 34 (.tmp 6) rfl go rfl 34 (ordA o) (0, 0) _ HQ.out.to Tryd.underlying34 rfl (ordInfo _) ?_)
    refine (row_yes o _ HR.out).mono ?_
    rintro e w2 ⟨v, rfl, hown, hb2⟩
    obtain ⟨A, cr, hv, hc1, hc2⟩ := (show Own w2 _ v (Od.row o) from hown).shape
    rw [Od.row_len] at hv hc1
    subst hv
    obtain ⟨gr, hA, _⟩ := (show Own w2 _ (.slice A 32 cr) (Od.row o) from hown).at_ (k := 0) (by rw [Od.row_len]; decide)
    subst hA
    have HR2 := Lib.hid hown
    have HZ := Lib.hid (show QR w m o gm go w'.heap.size (.slice (some ⟨gr, 0, none⟩) 32 cr) w2 from ⟨HQ.out.below hb2, HR2.out⟩)
    clear hown hb2 HQ HR2
    have HDZ := Lib.hid (dn_zero m o)
    go_wp2
    go_loopw [8, 22] (SOut w m o gm go w'.heap.size (.slice (some ⟨gr, 0, none⟩) 32 cr)) (fun _ i _ => 32 - (intOf i).toNat)
    case atStart => exact ⟨0, by omega, rfl, by rw [HDZ.out], HZ.out⟩
    case round =>
      obtain ⟨k, hk, rfl, rfl, hq⟩ := hrel
      have HQr := Lib.hid hq
      by_cases hlt : k < 32
      · have hck := own_cell hq.row (k := k) (by rw [Od.row_len]; exact hlt)
        rw [row_at o] at hck
        have hak := (Od.at_spec HR.out hlt).1
        have HNX := Lib.hid (dn_next m o k)
        have hkc : k ≤ cr := by omega
        have hkc2 : (k : Int) ≤ (cr : Int) := by omega
        have hkc3 : (0 : Int) ≤ (k : Int) := by omega
        clear hq
        go_wp2
        rw [show decide ((k : Int) < 32) = true from decide_eq_true (by omega)]
        go_loopw [8, 31] (SIn w m o gm go w'.heap.size k (.slice (some ⟨gr, 0, none⟩) 32 cr)) (fun _ i _ => 32 - (intOf i).toNat)
        case atStart => exact ⟨0, by omega, rfl, rfl, HQr.out⟩
        case round =>
          obtain ⟨n, hn, rfl, rfl, hq⟩ := hrel
          have HQn := Lib.hid hq
          by_cases hnk : n < k
          · have hcn := own_cell hq.row (k := n) (by rw [Od.row_len]; omega)
            rw [row_at o] at hcn
            have han := (Od.at_spec HR.out (show n < 32 by omega)).1
            clear hq
            cases hd : dnAt m o k n
            · have HD := Lib.hid (dn_new hlt hn hd)
              clear hd
              go_wp2_with (refine wpList_load_want rfl 32 (.tmp 5) rfl gm rfl 32 (matA m) (0, 0) _ _ HQn.out.q.tm Tryd.underlying32 (matInfo _) ?_)
              refine (mhas_val m _ _ _ _ hm hak HD.out.symm han).mono ?_
              rintro e w3 ⟨rfl, hb3⟩
              go_wp2
              exact ⟨⟨n + 1, by omega, by go_num, rfl, HQn.out.below hb3⟩, by simp [intOf]; omega⟩
            · have HD := Lib.hid (dn_old hd)
              clear hd
              go_wp2
              exact ⟨⟨n + 1, by omega, by go_num, by rw [HD.out], HQn.out⟩, by simp [intOf]; omega⟩
          · obtain rfl : n = k := by omega
            clear hq
            cases hd : dnAt m o n n
            · have HD := Lib.hid (dn_new hlt (Nat.le_refl _) hd)
              clear hd
              go_wp2_with (refine wpList_load_want rfl 32 (.tmp 5) rfl gm rfl 32 (matA m) (0, 0) _ _ HQn.out.q.tm Tryd.underlying32 (matInfo _) ?_)
              refine (mhas_val m _ _ _ _ hm hak HD.out.symm hak).mono ?_
              rintro e w3 ⟨rfl, hb3⟩
              go_wp2
              exact ⟨⟨n + 1, by omega, by go_num, by rw [HNX.out], HQn.out.below hb3⟩, by simp [intOf]; omega⟩
            · have HD := Lib.hid (dn_old hd)
              clear hd
              go_wp2
              exact ⟨⟨n + 1, by omega, by go_num, by rw [← HNX.out, HD.out], HQn.out⟩, by simp [intOf]; omega⟩
      · obtain rfl : k = 32 := by omega
        clear hq
        cases hd : dnAt m o 32 0
        · have HSB := Lib.hid (show Od.sortedB m o = true by rw [HSA.out, hd]; rfl)
          clear hd
          go_wp2
          refine wp_region_noPanic ?_
          refine region_start (S := QSt w m o gm go) 11 rfl (by kernel_rfl) (HQr.out.q.below (below_drew _)) (fun hHeld => ?_)
          refine take_at 0 51 (.agg (matA m)) rfl rfl (by kernel_rfl) (by kernel_rfl) (by kernel_rfl) (fun _ _ _ h => h) (yields_row (by rfl) 32 (.tmp 5) rfl (gm) rfl 32 (matA m) (fun W h => h.tm) Tryd.underlying32 (matInfo _)) hHeld ?_
          simp only [put_laws]
          refine take_at 1 52 (.agg (ordA o)) rfl rfl (by kernel_rfl) (by kernel_rfl) (by kernel_rfl) (fun _ _ _ h => h) (yields_row (by rfl) 34 (.tmp 6) rfl (go) rfl 34 (ordA o) (fun W h => h.to) Tryd.underlying34 (ordInfo _)) hHeld ?_
          simp only [put_laws]
          refine take_at 3 54 (.agg (ordA o)) rfl rfl (by kernel_rfl) (by kernel_rfl) (by kernel_rfl) (fun _ _ _ h => h) (yields_row (by rfl) 34 (.tmp 6) rfl (go) rfl 34 (ordA o) (fun W h => h.to) Tryd.underlying34 (ordInfo _)) hHeld ?_
          simp only [put_laws]
          refine wpAnyH_ready (rs := [2]) (by kernel_rfl) (by simp) ?_
          refine AllReadyH.cons rfl (fun K hK => ?_) AllReadyH.nil
          go_simp
          refine (sorted_val m o true _ hm HOk.out hHeld.ps.tab HSB.out).mono ?_
          rintro e wa ⟨rfl, hb⟩
          try go_simp
          have hHeld := hHeld.below hb
          refine hK.out _ _ hHeld (fun hHeld => ?_)
          clear hK K
          refine wpAnyH_ready (rs := [4]) (by kernel_rfl) (by simp) ?_
          refine AllReadyH.cons rfl (fun K hK => ?_) AllReadyH.nil
          go_simp
          refine (right_val o true _ HOk.out HRB.out).mono ?_
          rintro e wb ⟨rfl, hb⟩
          try go_simp
          have hHeld := hHeld.below hb
          refine hK.out _ _ hHeld (fun hHeld => ?_)
          clear hK K
          refine take_at 5 56 (.bool true) rfl rfl (by kernel_rfl) (by kernel_rfl) (by kernel_rfl) (fun _ _ _ h => h) (Or.inl ⟨by rfl, by intro W hW; clear hW; go_simp⟩) hHeld ?_
          simp only [put_laws]
          refine take_at 6 57 (.bool false) rfl rfl (by kernel_rfl) (by kernel_rfl) (by kernel_rfl) (fun _ _ _ h => h) (Or.inl ⟨by rfl, by intro W hW; clear hW; go_simp⟩) hHeld ?_
          simp only [put_laws]
          refine take_at 7 58 (.bool true) rfl rfl (by kernel_rfl) (by kernel_rfl) (by kernel_rfl) (fun _ _ _ h => h) (Or.inl ⟨by rfl, by intro W hW; clear hW; go_simp⟩) hHeld ?_
          simp only [put_laws]
          refine take_at 8 59 (.bool true) rfl rfl (by kernel_rfl) (by kernel_rfl) (by kernel_rfl) (fun _ _ _ h => h) (Or.inl ⟨by rfl, by intro W hW; clear hW; go_simp⟩) hHeld ?_
          simp only [put_laws]
          refine take_at 9 60 (.bool true) rfl rfl (by kernel_rfl) (by kernel_rfl) (by kernel_rfl) (fun _ _ _ h => h) (Or.inl ⟨by rfl, by intro W hW; clear hW; go_simp⟩) hHeld ?_
          simp only [put_laws]
          refine take_at 10 4 (.bool true) rfl rfl (by kernel_rfl) (by kernel_rfl) (by kernel_rfl) (fun _ _ _ h => h) (Or.inl ⟨by rfl, by intro W hW; clear hW; go_simp⟩) hHeld ?_
          simp only [put_laws]
          refine wpAnyH_done (by kernel_rfl) ?_ _
          refine NoPanic.normal ?_
          go_wp2
          go_ret
          exact ⟨rfl, hHeld.ps.bel⟩
        · have HSB := Lib.hid (show Od.sortedB m o = false by rw [HSA.out, hd]; rfl)
          clear hd
          go_wp2
          refine wp_region_noPanic ?_
          refine region_start (S := QSt w m o gm go) 11 rfl (by kernel_rfl) (HQr.out.q.below (below_drew _)) (fun hHeld => ?_)
          refine take_at 0 51 (.agg (matA m)) rfl rfl (by kernel_rfl) (by kernel_rfl) (by kernel_rfl) (fun _ _ _ h => h) (yields_row (by rfl) 32 (.tmp 5) rfl (gm) rfl 32 (matA m) (fun W h => h.tm) Tryd.underlying32 (matInfo _)) hHeld ?_
          simp only [put_laws]
          refine take_at 1 52 (.agg (ordA o)) rfl rfl (by kernel_rfl) (by kernel_rfl) (by kernel_rfl) (fun _ _ _ h => h) (yields_row (by rfl) 34 (.tmp 6) rfl (go) rfl 34 (ordA o) (fun W h => h.to) Tryd.underlying34 (ordInfo _)) hHeld ?_
          simp only [put_laws]
          refine take_at 3 54 (.agg (ordA o)) rfl rfl (by kernel_rfl) (by kernel_rfl) (by kernel_rfl) (fun _ _ _ h => h) (yields_row (by rfl) 34 (.tmp 6) rfl (go) rfl 34 (ordA o) (fun W h => h.to) Tryd.underlying34 (ordInfo _)) hHeld ?_
          simp only [put_laws]
          refine wpAnyH_ready (rs := [2]) (by kernel_rfl) (by simp) ?_
          refine AllReadyH.cons rfl (fun K hK => ?_) AllReadyH.nil
          go_simp
          refine (sorted_val m o false _ hm HOk.out hHeld.ps.tab HSB.out).mono ?_
          rintro e wa ⟨rfl, hb⟩
          try go_simp
          have hHeld := hHeld.below hb
          refine hK.out _ _ hHeld (fun hHeld => ?_)
          clear hK K
          refine wpAnyH_ready (rs := [4]) (by kernel_rfl) (by simp) ?_
          refine AllReadyH.cons rfl (fun K hK => ?_) AllReadyH.nil
          go_simp
          refine (right_val o true _ HOk.out HRB.out).mono ?_
          rintro e wb ⟨rfl, hb⟩
          try go_simp
          have hHeld := hHeld.below hb
          refine hK.out _ _ hHeld (fun hHeld => ?_)
          clear hK K
          refine take_at 5 56 (.bool true) rfl rfl (by kernel_rfl) (by kernel_rfl) (by kernel_rfl) (fun _ _ _ h => h) (Or.inl ⟨by rfl, by intro W hW; clear hW; go_simp⟩) hHeld ?_
          simp only [put_laws]
          refine take_at 6 57 (.bool true) rfl rfl (by kernel_rfl) (by kernel_rfl) (by kernel_rfl) (fun _ _ _ h => h) (Or.inl ⟨by rfl, by intro W hW; clear hW; go_simp⟩) hHeld ?_
          simp only [put_laws]
          refine take_at 7 58 (.bool false) rfl rfl (by kernel_rfl) (by kernel_rfl) (by kernel_rfl) (fun _ _ _ h => h) (Or.inl ⟨by rfl, by intro W hW; clear hW; go_simp⟩) hHeld ?_
          simp only [put_laws]
          refine take_at 8 59 (.bool false) rfl rfl (by kernel_rfl) (by kernel_rfl) (by kernel_rfl) (fun _ _ _ h => h) (Or.inl ⟨by rfl, by intro W hW; clear hW; go_simp⟩) hHeld ?_
          simp only [put_laws]
          refine take_at 9 60 (.bool true) rfl rfl (by kernel_rfl) (by kernel_rfl) (by kernel_rfl) (fun _ _ _ h => h) (Or.inl ⟨by rfl, by intro W hW; clear hW; go_simp⟩) hHeld ?_
          simp only [put_laws]
          refine take_at 10 4 (.bool true) rfl rfl (by kernel_rfl) (by kernel_rfl) (by kernel_rfl) (fun _ _ _ h => h) (Or.inl ⟨by rfl, by intro W hW; clear hW; go_simp⟩) hHeld ?_
          simp only [put_laws]
          refine wpAnyH_done (by kernel_rfl) ?_ _
          refine NoPanic.normal ?_
          go_wp2
          go_ret
          exact ⟨rfl, hHeld.ps.bel⟩
theorem topoSorted_any (m : Mm.Gr) (o : Od.O) (w : World) (hm : Mm.Ok m) (ho : Od.Ok o) (hT : TabAt w) :
    Calls Tryd.prog 9 #[.agg (matA m), .agg (ordA o)] w fun e w' => e = .returned (.bool true) ∧ Below w.heap.size w w' := by
  by_cases hr : Od.Right o
  · exact topoSorted_yes m o w hm hr hT
  · exact topoSorted_no m o w hm ho hr hT
end Go.Proofs.YtgelfjoacppkcaaDoor
