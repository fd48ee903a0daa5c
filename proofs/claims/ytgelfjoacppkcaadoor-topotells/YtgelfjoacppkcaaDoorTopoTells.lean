/-
  The walk of TopoTells.
-/
import Derived.Test.YtgelfjoacppkcaaDoorTopoAlive
import Derived.Test.YtgelfjoacppkcaaDoorTopoRIns2
namespace Go.Proofs.YtgelfjoacppkcaaDoor
open Go.RowKit
set_option maxHeartbeats 1000000 in
set_option maxRecDepth 100000 in
theorem same_any (A B : Option Addr) (n c d : Nat) (zs : List Int) (w : World) (hn : n ≤ 9223372036854775807) (ha : IntsAt w A n zs) (hb : IntsAt w B n zs) :
    Calls Tryd.prog 19 #[.slice A n c, .slice B n d] w fun e w' => e = .returned (.bool true) ∧ Below w.heap.size w w' := by
  have HA := Lib.hid ha
  have HB := Lib.hid hb
  clear ha hb
  go_enter Tryd.func19, Tryd.ntmps19
  go_wp2
  go_loopw [5] (fun i wr => ∃ k q : Nat, k ≤ n ∧ i = .int .i64 k ∧ wr = w.drewN q) (fun i _ => n - (intOf i).toNat)
  case atStart => exact ⟨0, 0, Nat.zero_le _, rfl, rfl⟩
  case round =>
    obtain ⟨k, q, hk, rfl, rfl⟩ := hrel
    by_cases hlt : k < n
    · obtain ⟨ad, z, rfl, hz, hc, h0, h1⟩ := HA.out.at_ hlt
      obtain ⟨ad', z', rfl, hz', hc', _⟩ := HB.out.at_ hlt
      have e : z' = z := by rw [hz] at hz'; injection hz' with e; exact e.symm
      subst e
      clear hz hz'
      have hlt' : (k : Int) < (n : Int) := by omega
      go_wp2
      go_quiet (fail)
      go_wp2
      exact ⟨⟨k + 1, q + nq, by omega, by go_num, rfl⟩, by simp [intOf]; omega⟩
    · go_wp2
      go_ret
      exact ⟨rfl, below_drewN (Below.refl _ _) _⟩
attribute [local go_sem ↓] Go.wp_at_zero Go.wp_at_succ
theorem same_rows {o : Od.O} (hr : Od.Right o) {W : World} {b1 b2 : Nat} {v1 v2 : Value} (h1 : Own W b1 v1 (Od.row o)) (h2 : Own W b2 v2 (Od.row o)) :
    Calls Tryd.prog 19 #[v1, v2] W fun e w' => e = .returned (.bool true) ∧ Below W.heap.size W w' := by
  obtain ⟨A, c, rfl, _, _⟩ := h1.shape
  obtain ⟨B, d, rfl, _, _⟩ := h2.shape
  have e64 : ∀ k ∈ Od.row o, k < 64 := by
    intro k hk
    unfold Od.row at hk
    rw [List.mem_map] at hk
    obtain ⟨p, hp, rfl⟩ := hk
    have := (Od.at_spec hr (by simpa using hp)).1
    omega
  exact same_any A B _ c d _ W (by rw [Od.row_len]; decide) (h1.ints e64) (h2.ints e64)
theorem same_none (W : World) : Calls Tryd.prog 19 #[.slice none 0 0, .slice none 0 0] W fun e w' => e = .returned (.bool true) ∧ Below W.heap.size W w' :=
  same_any none none 0 0 0 [] W (by decide) ⟨rfl, fun h => absurd h (by decide), fun z hz => by simp at hz⟩ ⟨rfl, fun h => absurd h (by decide), fun z hz => by simp at hz⟩
/-- the arguments' boxes, and the table. -/
structure ESt (w : World) (m : Mm.Gr) (o : Od.O) (ea eb : Int) (W : World) : Prop where
  gr : MatAt W w.heap.size m 24
  od : OrdAt W (w.heap.size + 1) o 26
  c0 : W.cell? ⟨w.heap.size + 2, 0, none⟩ = some (.int .i64 ea)
  c1 : W.cell? ⟨w.heap.size + 2, 1, none⟩ = some (.int .i64 eb)
  tab : TabAt W
  bel : Below w.heap.size w W
theorem cell_below {W W' : World} {p : Addr} {v : Value} (h : W.cell? p = some v) (hb : Below W.heap.size W W') : W'.cell? p = some v := (hb.cell (cell_lt h)).trans h
theorem ESt.below {w W W' : World} {m : Mm.Gr} {o : Od.O} {ea eb : Int} (h : ESt w m o ea eb W) (hb : Below W.heap.size W W') : ESt w m o ea eb W' := ⟨h.gr.below hb, h.od.below hb, cell_below h.c0 hb, cell_below h.c1 hb, tab_below h.tab hb, h.bel.trans (hb.mono h.bel.size)⟩
theorem est_first {w : World} (m : Mm.Gr) (o : Od.O) (ea eb : Int) (hT : TabAt w) : ESt w m o ea eb (((w.alloc (.cells (matA m) 24)).alloc (.cells (ordA o) 26)).alloc (.cells #[.int .i64 ea, .int .i64 eb] 28)) := by
  have h1 : OrdAt ((w.alloc (.cells (matA m) 24)).alloc (.cells (ordA o) 26)) (w.heap.size + 1) o 26 := by
    have := ordAt_new (w.alloc (.cells (matA m) 24)) o 26
    simpa using this
  have h2 := heap_alloc_new ((w.alloc (.cells (matA m) 24)).alloc (.cells (ordA o) 26)) (.cells #[.int .i64 ea, .int .i64 eb] 28)
  have h3 : (((w.alloc (.cells (matA m) 24)).alloc (.cells (ordA o) 26)).alloc (.cells #[.int .i64 ea, .int .i64 eb] 28)).heap[w.heap.size + 2]? = some (.cells #[.int .i64 ea, .int .i64 eb] 28 (0, 0)) := by simpa using h2
  exact ⟨((matAt_new w m _).alloc _).alloc _, h1.alloc _, by rw [cell_of_row _ _ _ _ _ _ h3]; rfl, by rw [cell_of_row _ _ _ _ _ _ h3]; rfl, tabAt_new (tabAt_new (tabAt_new hT _) _) _,
    (((Below.refl _ _).alloc (Nat.le_refl _) _).alloc (by simp) _).alloc (by simp; omega) _⟩
structure TSt2 (w : World) (m : Mm.Gr) (o : Od.O) (ea eb : Int) (gm go : Nat) (W : World) : Prop where
  es : ESt w m o ea eb W
  tm : MatAt W gm m 32
  to : OrdAt W go o 34
theorem TSt2.below {w W W' : World} {m : Mm.Gr} {o : Od.O} {ea eb : Int} {gm go : Nat} (h : TSt2 w m o ea eb gm go W) (hb : Below W.heap.size W W') : TSt2 w m o ea eb gm go W' := ⟨h.es.below hb, h.tm.below hb, h.to.below hb⟩
structure TSt3 (w : World) (m : Mm.Gr) (o : Od.O) (ea eb : Int) (gm go gx gq : Nat) (X : Mm.Gr) (Q : Od.O) (W : World) : Prop where
  t : TSt2 w m o ea eb gm go W
  x : MatAt W gx X 32
  q : OrdAt W gq Q 34
theorem TSt3.below {w W W' : World} {m X : Mm.Gr} {o Q : Od.O} {ea eb : Int} {gm go gx gq : Nat} (h : TSt3 w m o ea eb gm go gx gq X Q W) (hb : Below W.heap.size W W') : TSt3 w m o ea eb gm go gx gq X Q W' := ⟨h.t.below hb, h.x.below hb, h.q.below hb⟩
structure TSt4 (w : World) (m : Mm.Gr) (o : Od.O) (ea eb : Int) (gm go gx gq gy gz : Nat) (X : Mm.Gr) (Q : Od.O) (W : World) : Prop where
  t : TSt3 w m o ea eb gm go gx gq X Q W
  y : MatAt W gy X 24
  z : OrdAt W gz Q 26
theorem TSt4.below {w W W' : World} {m X : Mm.Gr} {o Q : Od.O} {ea eb : Int} {gm go gx gq gy gz : Nat} (h : TSt4 w m o ea eb gm go gx gq gy gz X Q W) (hb : Below W.heap.size W W') : TSt4 w m o ea eb gm go gx gq gy gz X Q W' := ⟨h.t.below hb, h.y.below hb, h.z.below hb⟩
set_option maxHeartbeats 8000000 in
set_option maxRecDepth 100000 in
theorem topoTells_yes (m : Mm.Gr) (o : Od.O) (ea eb : Int) (w : World) (hm : Mm.Ok m) (hr : Od.Right o) (hea : -9223372036854775808 ≤ ea ∧ ea ≤ 9223372036854775807) (heb : -9223372036854775808 ≤ eb ∧ eb ≤ 9223372036854775807) (hT : TabAt w) :
    Calls Tryd.prog 3 #[.agg (matA m), .agg (ordA o), .agg #[.int .i64 ea, .int .i64 eb]] w fun e w' => e = .returned (.bool true) ∧ Below w.heap.size w w' := by
  have HP := Lib.hid (est_first m o ea eb hT)
  have HR := Lib.hid hr
  have HOk := Lib.hid hr.ok
  clear hT hr
  go_enter Tryd.func3, Tryd.ntmps3
  go_wp2_with fail
  refine (alive_any _ HP.out.tab).mono ?_
  rintro e w1 ⟨rfl, hb1⟩
  have HS1 := Lib.hid (HP.out.below hb1)
  clear hb1 HP
  go_wp2_with fail
  refine wp_mono (Q := fun e a' w' => e = .normal ∧ (∃ gm go, a' = { tmps := #[.agg (matA m), .agg (ordA o), .agg #[.int .i64 ea, .int .i64 eb], .pointer (some ⟨w.heap.size, 0, none⟩), .pointer (some ⟨w.heap.size + 1, 0, none⟩), .pointer (some ⟨w.heap.size + 2, 0, none⟩), .bool false, .pointer (some ⟨gm, 0, none⟩), .pointer (some ⟨go, 0, none⟩), undef, undef, undef, undef, undef, undef, .bool true, .bool false, .agg (matA m), .agg (matA m), .agg (ordA o), undef, undef, undef, undef, undef, undef, undef, undef, undef, undef, undef, undef, undef, undef, undef, undef, undef, undef, undef, undef, undef, undef, undef, undef, undef, undef, undef, undef, undef, undef, undef, undef, undef, undef, undef, undef, undef, undef, undef, undef, undef, undef, undef, undef, undef, undef, undef, undef, undef, undef, undef, undef, undef, undef, undef, undef, undef, undef, undef, undef, undef, undef, undef, undef], defers := [] } ∧ MatAt w' gm m 32 ∧ OrdAt w' go o 34 ∧ Below (w1).heap.size (w1) w')) ?_ ?_
  · refine wp_region_noPanic ?_
    refine region_start (S := Below (w1).heap.size (w1)) 7 rfl (by kernel_rfl) (below_drew _) (fun hHeld => ?_)
    refine take_at 0 17 (.agg (matA m)) rfl rfl (by kernel_rfl) (by kernel_rfl) (by kernel_rfl) (fun _ _ _ h => h) (yields_row (by rfl) 24 (.tmp 3) rfl (w.heap.size) rfl 24 (matA m) (fun W h => (HS1.out.below h).gr) Tryd.underlying24 (rmatInfo _)) hHeld ?_
    simp only [put_laws]
    refine take_at 2 19 (.agg (ordA o)) rfl rfl (by kernel_rfl) (by kernel_rfl) (by kernel_rfl) (fun _ _ _ h => h) (yields_row (by rfl) 26 (.tmp 4) rfl (w.heap.size + 1) rfl 26 (ordA o) (fun W h => (HS1.out.below h).od) Tryd.underlying26 (rordInfo _)) hHeld ?_
    simp only [put_laws]
    refine wpAnyH_ready (rs := [1, 3, 4]) (by kernel_rfl) (by simp) ?_
    refine AllReadyH.cons rfl (fun K hK => ?_) (AllReadyH.cons rfl (fun K hK => ?_) (AllReadyH.cons rfl (fun K hK => ?_) AllReadyH.nil))
    · go_simp
      refine (theirs_any m _).mono ?_
      rintro e wc ⟨rfl, hb⟩
      try go_simp
      have hHeld := hHeld.trans (hb.mono hHeld.size)
      have hsz := hb.size
      have hsz0 := hHeld.size
      refine hK.out _ _ hHeld (fun hHeld => ?_)
      clear hK K hb
      refine wpAnyH_ready (rs := [3, 4]) (by kernel_rfl) (by simp) ?_
      refine AllReadyH.cons rfl (fun K hK => ?_) (AllReadyH.cons rfl (fun K hK => ?_) AllReadyH.nil)
      · go_simp
        have hHeld := hHeld.alloc hHeld.size (.cells #[Value.int IntKind.u64 0, Value.int IntKind.u64 0, Value.int IntKind.u64 0, Value.int IntKind.u64 0, Value.int IntKind.u64 0, Value.int IntKind.u64 0, Value.int IntKind.u64 0, Value.int IntKind.u64 0, Value.int IntKind.u64 0, Value.int IntKind.u64 0, Value.int IntKind.u64 0, Value.int IntKind.u64 0, Value.int IntKind.u64 0, Value.int IntKind.u64 0, Value.int IntKind.u64 0, Value.int IntKind.u64 0, Value.int IntKind.u64 0, Value.int IntKind.u64 0, Value.int IntKind.u64 0, Value.int IntKind.u64 0, Value.int IntKind.u64 0, Value.int IntKind.u64 0, Value.int IntKind.u64 0, Value.int IntKind.u64 0, Value.int IntKind.u64 0, Value.int IntKind.u64 0, Value.int IntKind.u64 0, Value.int IntKind.u64 0, Value.int IntKind.u64 0, Value.int IntKind.u64 0, Value.int IntKind.u64 0, Value.int IntKind.u64 0] 32)
        have hm := heap_alloc_new (wc) (.cells #[Value.int IntKind.u64 0, Value.int IntKind.u64 0, Value.int IntKind.u64 0, Value.int IntKind.u64 0, Value.int IntKind.u64 0, Value.int IntKind.u64 0, Value.int IntKind.u64 0, Value.int IntKind.u64 0, Value.int IntKind.u64 0, Value.int IntKind.u64 0, Value.int IntKind.u64 0, Value.int IntKind.u64 0, Value.int IntKind.u64 0, Value.int IntKind.u64 0, Value.int IntKind.u64 0, Value.int IntKind.u64 0, Value.int IntKind.u64 0, Value.int IntKind.u64 0, Value.int IntKind.u64 0, Value.int IntKind.u64 0, Value.int IntKind.u64 0, Value.int IntKind.u64 0, Value.int IntKind.u64 0, Value.int IntKind.u64 0, Value.int IntKind.u64 0, Value.int IntKind.u64 0, Value.int IntKind.u64 0, Value.int IntKind.u64 0, Value.int IntKind.u64 0, Value.int IntKind.u64 0, Value.int IntKind.u64 0, Value.int IntKind.u64 0] 32)
        refine hK.out _ _ hHeld (fun hHeld => ?_)
        clear hK K
        refine wpAnyH_ready (rs := [4]) (by kernel_rfl) (by simp) ?_
        refine AllReadyH.cons rfl (fun K hK => ?_) AllReadyH.nil
        go_simp
        have hHeld := hHeld.alloc hHeld.size (.cells #[Value.int IntKind.i64 0, Value.int IntKind.i64 0, Value.int IntKind.i64 0, Value.int IntKind.i64 0, Value.int IntKind.i64 0, Value.int IntKind.i64 0, Value.int IntKind.i64 0, Value.int IntKind.i64 0, Value.int IntKind.i64 0, Value.int IntKind.i64 0, Value.int IntKind.i64 0, Value.int IntKind.i64 0, Value.int IntKind.i64 0, Value.int IntKind.i64 0, Value.int IntKind.i64 0, Value.int IntKind.i64 0, Value.int IntKind.i64 0, Value.int IntKind.i64 0, Value.int IntKind.i64 0, Value.int IntKind.i64 0, Value.int IntKind.i64 0, Value.int IntKind.i64 0, Value.int IntKind.i64 0, Value.int IntKind.i64 0, Value.int IntKind.i64 0, Value.int IntKind.i64 0, Value.int IntKind.i64 0, Value.int IntKind.i64 0, Value.int IntKind.i64 0, Value.int IntKind.i64 0, Value.int IntKind.i64 0, Value.int IntKind.i64 0] 34)
        have hm := (Below.heap_alloc _ (.cells #[Value.int IntKind.i64 0, Value.int IntKind.i64 0, Value.int IntKind.i64 0, Value.int IntKind.i64 0, Value.int IntKind.i64 0, Value.int IntKind.i64 0, Value.int IntKind.i64 0, Value.int IntKind.i64 0, Value.int IntKind.i64 0, Value.int IntKind.i64 0, Value.int IntKind.i64 0, Value.int IntKind.i64 0, Value.int IntKind.i64 0, Value.int IntKind.i64 0, Value.int IntKind.i64 0, Value.int IntKind.i64 0, Value.int IntKind.i64 0, Value.int IntKind.i64 0, Value.int IntKind.i64 0, Value.int IntKind.i64 0, Value.int IntKind.i64 0, Value.int IntKind.i64 0, Value.int IntKind.i64 0, Value.int IntKind.i64 0, Value.int IntKind.i64 0, Value.int IntKind.i64 0, Value.int IntKind.i64 0, Value.int IntKind.i64 0, Value.int IntKind.i64 0, Value.int IntKind.i64 0, Value.int IntKind.i64 0, Value.int IntKind.i64 0] 34) _ (Array.getElem?_eq_some_iff.1 hm).1).trans hm
        have ho := heap_alloc2_new (wc) (.cells #[Value.int IntKind.u64 0, Value.int IntKind.u64 0, Value.int IntKind.u64 0, Value.int IntKind.u64 0, Value.int IntKind.u64 0, Value.int IntKind.u64 0, Value.int IntKind.u64 0, Value.int IntKind.u64 0, Value.int IntKind.u64 0, Value.int IntKind.u64 0, Value.int IntKind.u64 0, Value.int IntKind.u64 0, Value.int IntKind.u64 0, Value.int IntKind.u64 0, Value.int IntKind.u64 0, Value.int IntKind.u64 0, Value.int IntKind.u64 0, Value.int IntKind.u64 0, Value.int IntKind.u64 0, Value.int IntKind.u64 0, Value.int IntKind.u64 0, Value.int IntKind.u64 0, Value.int IntKind.u64 0, Value.int IntKind.u64 0, Value.int IntKind.u64 0, Value.int IntKind.u64 0, Value.int IntKind.u64 0, Value.int IntKind.u64 0, Value.int IntKind.u64 0, Value.int IntKind.u64 0, Value.int IntKind.u64 0, Value.int IntKind.u64 0] 32) (.cells #[Value.int IntKind.i64 0, Value.int IntKind.i64 0, Value.int IntKind.i64 0, Value.int IntKind.i64 0, Value.int IntKind.i64 0, Value.int IntKind.i64 0, Value.int IntKind.i64 0, Value.int IntKind.i64 0, Value.int IntKind.i64 0, Value.int IntKind.i64 0, Value.int IntKind.i64 0, Value.int IntKind.i64 0, Value.int IntKind.i64 0, Value.int IntKind.i64 0, Value.int IntKind.i64 0, Value.int IntKind.i64 0, Value.int IntKind.i64 0, Value.int IntKind.i64 0, Value.int IntKind.i64 0, Value.int IntKind.i64 0, Value.int IntKind.i64 0, Value.int IntKind.i64 0, Value.int IntKind.i64 0, Value.int IntKind.i64 0, Value.int IntKind.i64 0, Value.int IntKind.i64 0, Value.int IntKind.i64 0, Value.int IntKind.i64 0, Value.int IntKind.i64 0, Value.int IntKind.i64 0, Value.int IntKind.i64 0, Value.int IntKind.i64 0] 34)
        refine hK.out _ _ hHeld (fun hHeld => ?_)
        clear hK K
        have hmb : (w1).heap.size ≤ wc.heap.size := by first | omega | (simp at hsz; omega) | (simp at hsz hsz0; omega)
        have hob : (w1).heap.size ≤ wc.heap.size + 1 := by first | omega | (simp at hsz; omega) | (simp at hsz hsz0; omega)
        have hne : wc.heap.size ≠ wc.heap.size + 1 := by first | omega | (simp at hsz; omega) | (simp at hsz hsz0; omega)
        refine wpAnyH_ready (rs := [5]) (by kernel_rfl) (by simp) ?_
        refine AllReadyH.cons rfl (fun K hK => ?_) AllReadyH.nil
        refine step_store_row (by rfl) 32 (.tmp 7) (.tmp 18) (by rfl) (wc.heap.size) (matA m) (by rfl) (by rfl) 32 _ hm (matInfo _) (by rw [matA_size]; rfl) (matA_one _) ?_
        have hHeld := setRow_below (g := wc.heap.size) (cs := matA m) hHeld hmb
        have ho := (setRow_other _ (wc.heap.size) (wc.heap.size + 1) (matA m) (by have := hne; omega)).trans ho
        have hm := setRow_heap _ _ _ (matA m) _ _ hm
        refine hK.out _ _ hHeld (fun hHeld => ?_)
        clear hK K
        refine wpAnyH_ready (rs := [6]) (by kernel_rfl) (by simp) ?_
        refine AllReadyH.cons rfl (fun K hK => ?_) AllReadyH.nil
        refine step_store_row (by rfl) 34 (.tmp 8) (.tmp 19) (by rfl) (wc.heap.size + 1) (ordA o) (by rfl) (by rfl) 34 _ ho (ordInfo _) (by rw [ordA_size]; rfl) (ordA_one _) ?_
        have hHeld := setRow_below (g := wc.heap.size + 1) (cs := ordA o) hHeld hob
        have hm := (setRow_other _ (wc.heap.size + 1) (wc.heap.size) (ordA o) (by have := hne; omega)).trans hm
        have ho := setRow_heap _ _ _ (ordA o) _ _ ho
        refine hK.out _ _ hHeld (fun hHeld => ?_)
        clear hK K
        refine wpAnyH_done (by kernel_rfl) ?_ _
        refine NoPanic.normal ?_
        exact ⟨rfl, _, _, rfl, hm, ho, hHeld⟩
      · go_simp
        have hHeld := hHeld.alloc hHeld.size (.cells #[Value.int IntKind.i64 0, Value.int IntKind.i64 0, Value.int IntKind.i64 0, Value.int IntKind.i64 0, Value.int IntKind.i64 0, Value.int IntKind.i64 0, Value.int IntKind.i64 0, Value.int IntKind.i64 0, Value.int IntKind.i64 0, Value.int IntKind.i64 0, Value.int IntKind.i64 0, Value.int IntKind.i64 0, Value.int IntKind.i64 0, Value.int IntKind.i64 0, Value.int IntKind.i64 0, Value.int IntKind.i64 0, Value.int IntKind.i64 0, Value.int IntKind.i64 0, Value.int IntKind.i64 0, Value.int IntKind.i64 0, Value.int IntKind.i64 0, Value.int IntKind.i64 0, Value.int IntKind.i64 0, Value.int IntKind.i64 0, Value.int IntKind.i64 0, Value.int IntKind.i64 0, Value.int IntKind.i64 0, Value.int IntKind.i64 0, Value.int IntKind.i64 0, Value.int IntKind.i64 0, Value.int IntKind.i64 0, Value.int IntKind.i64 0] 34)
        have ho := heap_alloc_new (wc) (.cells #[Value.int IntKind.i64 0, Value.int IntKind.i64 0, Value.int IntKind.i64 0, Value.int IntKind.i64 0, Value.int IntKind.i64 0, Value.int IntKind.i64 0, Value.int IntKind.i64 0, Value.int IntKind.i64 0, Value.int IntKind.i64 0, Value.int IntKind.i64 0, Value.int IntKind.i64 0, Value.int IntKind.i64 0, Value.int IntKind.i64 0, Value.int IntKind.i64 0, Value.int IntKind.i64 0, Value.int IntKind.i64 0, Value.int IntKind.i64 0, Value.int IntKind.i64 0, Value.int IntKind.i64 0, Value.int IntKind.i64 0, Value.int IntKind.i64 0, Value.int IntKind.i64 0, Value.int IntKind.i64 0, Value.int IntKind.i64 0, Value.int IntKind.i64 0, Value.int IntKind.i64 0, Value.int IntKind.i64 0, Value.int IntKind.i64 0, Value.int IntKind.i64 0, Value.int IntKind.i64 0, Value.int IntKind.i64 0, Value.int IntKind.i64 0] 34)
        refine hK.out _ _ hHeld (fun hHeld => ?_)
        clear hK K
        refine wpAnyH_ready (rs := [3]) (by kernel_rfl) (by simp) ?_
        refine AllReadyH.cons rfl (fun K hK => ?_) AllReadyH.nil
        go_simp
        have hHeld := hHeld.alloc hHeld.size (.cells #[Value.int IntKind.u64 0, Value.int IntKind.u64 0, Value.int IntKind.u64 0, Value.int IntKind.u64 0, Value.int IntKind.u64 0, Value.int IntKind.u64 0, Value.int IntKind.u64 0, Value.int IntKind.u64 0, Value.int IntKind.u64 0, Value.int IntKind.u64 0, Value.int IntKind.u64 0, Value.int IntKind.u64 0, Value.int IntKind.u64 0, Value.int IntKind.u64 0, Value.int IntKind.u64 0, Value.int IntKind.u64 0, Value.int IntKind.u64 0, Value.int IntKind.u64 0, Value.int IntKind.u64 0, Value.int IntKind.u64 0, Value.int IntKind.u64 0, Value.int IntKind.u64 0, Value.int IntKind.u64 0, Value.int IntKind.u64 0, Value.int IntKind.u64 0, Value.int IntKind.u64 0, Value.int IntKind.u64 0, Value.int IntKind.u64 0, Value.int IntKind.u64 0, Value.int IntKind.u64 0, Value.int IntKind.u64 0, Value.int IntKind.u64 0] 32)
        have ho := (Below.heap_alloc _ (.cells #[Value.int IntKind.u64 0, Value.int IntKind.u64 0, Value.int IntKind.u64 0, Value.int IntKind.u64 0, Value.int IntKind.u64 0, Value.int IntKind.u64 0, Value.int IntKind.u64 0, Value.int IntKind.u64 0, Value.int IntKind.u64 0, Value.int IntKind.u64 0, Value.int IntKind.u64 0, Value.int IntKind.u64 0, Value.int IntKind.u64 0, Value.int IntKind.u64 0, Value.int IntKind.u64 0, Value.int IntKind.u64 0, Value.int IntKind.u64 0, Value.int IntKind.u64 0, Value.int IntKind.u64 0, Value.int IntKind.u64 0, Value.int IntKind.u64 0, Value.int IntKind.u64 0, Value.int IntKind.u64 0, Value.int IntKind.u64 0, Value.int IntKind.u64 0, Value.int IntKind.u64 0, Value.int IntKind.u64 0, Value.int IntKind.u64 0, Value.int IntKind.u64 0, Value.int IntKind.u64 0, Value.int IntKind.u64 0, Value.int IntKind.u64 0] 32) _ (Array.getElem?_eq_some_iff.1 ho).1).trans ho
        have hm := heap_alloc2_new (wc) (.cells #[Value.int IntKind.i64 0, Value.int IntKind.i64 0, Value.int IntKind.i64 0, Value.int IntKind.i64 0, Value.int IntKind.i64 0, Value.int IntKind.i64 0, Value.int IntKind.i64 0, Value.int IntKind.i64 0, Value.int IntKind.i64 0, Value.int IntKind.i64 0, Value.int IntKind.i64 0, Value.int IntKind.i64 0, Value.int IntKind.i64 0, Value.int IntKind.i64 0, Value.int IntKind.i64 0, Value.int IntKind.i64 0, Value.int IntKind.i64 0, Value.int IntKind.i64 0, Value.int IntKind.i64 0, Value.int IntKind.i64 0, Value.int IntKind.i64 0, Value.int IntKind.i64 0, Value.int IntKind.i64 0, Value.int IntKind.i64 0, Value.int IntKind.i64 0, Value.int IntKind.i64 0, Value.int IntKind.i64 0, Value.int IntKind.i64 0, Value.int IntKind.i64 0, Value.int IntKind.i64 0, Value.int IntKind.i64 0, Value.int IntKind.i64 0] 34) (.cells #[Value.int IntKind.u64 0, Value.int IntKind.u64 0, Value.int IntKind.u64 0, Value.int IntKind.u64 0, Value.int IntKind.u64 0, Value.int IntKind.u64 0, Value.int IntKind.u64 0, Value.int IntKind.u64 0, Value.int IntKind.u64 0, Value.int IntKind.u64 0, Value.int IntKind.u64 0, Value.int IntKind.u64 0, Value.int IntKind.u64 0, Value.int IntKind.u64 0, Value.int IntKind.u64 0, Value.int IntKind.u64 0, Value.int IntKind.u64 0, Value.int IntKind.u64 0, Value.int IntKind.u64 0, Value.int IntKind.u64 0, Value.int IntKind.u64 0, Value.int IntKind.u64 0, Value.int IntKind.u64 0, Value.int IntKind.u64 0, Value.int IntKind.u64 0, Value.int IntKind.u64 0, Value.int IntKind.u64 0, Value.int IntKind.u64 0, Value.int IntKind.u64 0, Value.int IntKind.u64 0, Value.int IntKind.u64 0, Value.int IntKind.u64 0] 32)
        refine hK.out _ _ hHeld (fun hHeld => ?_)
        clear hK K
        have hmb : (w1).heap.size ≤ wc.heap.size + 1 := by first | omega | (simp at hsz; omega) | (simp at hsz hsz0; omega)
        have hob : (w1).heap.size ≤ wc.heap.size := by first | omega | (simp at hsz; omega) | (simp at hsz hsz0; omega)
        have hne : wc.heap.size + 1 ≠ wc.heap.size := by first | omega | (simp at hsz; omega) | (simp at hsz hsz0; omega)
        refine wpAnyH_ready (rs := [5]) (by kernel_rfl) (by simp) ?_
        refine AllReadyH.cons rfl (fun K hK => ?_) AllReadyH.nil
        refine step_store_row (by rfl) 32 (.tmp 7) (.tmp 18) (by rfl) (wc.heap.size + 1) (matA m) (by rfl) (by rfl) 32 _ hm (matInfo _) (by rw [matA_size]; rfl) (matA_one _) ?_
        have hHeld := setRow_below (g := wc.heap.size + 1) (cs := matA m) hHeld hmb
        have ho := (setRow_other _ (wc.heap.size + 1) (wc.heap.size) (matA m) (by have := hne; omega)).trans ho
        have hm := setRow_heap _ _ _ (matA m) _ _ hm
        refine hK.out _ _ hHeld (fun hHeld => ?_)
        clear hK K
        refine wpAnyH_ready (rs := [6]) (by kernel_rfl) (by simp) ?_
        refine AllReadyH.cons rfl (fun K hK => ?_) AllReadyH.nil
        refine step_store_row (by rfl) 34 (.tmp 8) (.tmp 19) (by rfl) (wc.heap.size) (ordA o) (by rfl) (by rfl) 34 _ ho (ordInfo _) (by rw [ordA_size]; rfl) (ordA_one _) ?_
        have hHeld := setRow_below (g := wc.heap.size) (cs := ordA o) hHeld hob
        have hm := (setRow_other _ (wc.heap.size) (wc.heap.size + 1) (ordA o) (by have := hne; omega)).trans hm
        have ho := setRow_heap _ _ _ (ordA o) _ _ ho
        refine hK.out _ _ hHeld (fun hHeld => ?_)
        clear hK K
        refine wpAnyH_done (by kernel_rfl) ?_ _
        refine NoPanic.normal ?_
        exact ⟨rfl, _, _, rfl, hm, ho, hHeld⟩
    · go_simp
      have hHeld := hHeld.alloc hHeld.size (.cells #[Value.int IntKind.u64 0, Value.int IntKind.u64 0, Value.int IntKind.u64 0, Value.int IntKind.u64 0, Value.int IntKind.u64 0, Value.int IntKind.u64 0, Value.int IntKind.u64 0, Value.int IntKind.u64 0, Value.int IntKind.u64 0, Value.int IntKind.u64 0, Value.int IntKind.u64 0, Value.int IntKind.u64 0, Value.int IntKind.u64 0, Value.int IntKind.u64 0, Value.int IntKind.u64 0, Value.int IntKind.u64 0, Value.int IntKind.u64 0, Value.int IntKind.u64 0, Value.int IntKind.u64 0, Value.int IntKind.u64 0, Value.int IntKind.u64 0, Value.int IntKind.u64 0, Value.int IntKind.u64 0, Value.int IntKind.u64 0, Value.int IntKind.u64 0, Value.int IntKind.u64 0, Value.int IntKind.u64 0, Value.int IntKind.u64 0, Value.int IntKind.u64 0, Value.int IntKind.u64 0, Value.int IntKind.u64 0, Value.int IntKind.u64 0] 32)
      have hm := heap_alloc_new (w1.drew) (.cells #[Value.int IntKind.u64 0, Value.int IntKind.u64 0, Value.int IntKind.u64 0, Value.int IntKind.u64 0, Value.int IntKind.u64 0, Value.int IntKind.u64 0, Value.int IntKind.u64 0, Value.int IntKind.u64 0, Value.int IntKind.u64 0, Value.int IntKind.u64 0, Value.int IntKind.u64 0, Value.int IntKind.u64 0, Value.int IntKind.u64 0, Value.int IntKind.u64 0, Value.int IntKind.u64 0, Value.int IntKind.u64 0, Value.int IntKind.u64 0, Value.int IntKind.u64 0, Value.int IntKind.u64 0, Value.int IntKind.u64 0, Value.int IntKind.u64 0, Value.int IntKind.u64 0, Value.int IntKind.u64 0, Value.int IntKind.u64 0, Value.int IntKind.u64 0, Value.int IntKind.u64 0, Value.int IntKind.u64 0, Value.int IntKind.u64 0, Value.int IntKind.u64 0, Value.int IntKind.u64 0, Value.int IntKind.u64 0, Value.int IntKind.u64 0] 32)
      refine hK.out _ _ hHeld (fun hHeld => ?_)
      clear hK K
      refine wpAnyH_ready (rs := [1, 4]) (by kernel_rfl) (by simp) ?_
      refine AllReadyH.cons rfl (fun K hK => ?_) (AllReadyH.cons rfl (fun K hK => ?_) AllReadyH.nil)
      · go_simp
        refine (theirs_any m _).mono ?_
        rintro e wc ⟨rfl, hb⟩
        try go_simp
        have hHeld := hHeld.trans (hb.mono hHeld.size)
        have hm := (hb.block (w1.heap.size) (by simp <;> omega)).trans hm
        have hsz := hb.size
        have hsz0 := hHeld.size
        refine hK.out _ _ hHeld (fun hHeld => ?_)
        clear hK K hb
        refine wpAnyH_ready (rs := [4]) (by kernel_rfl) (by simp) ?_
        refine AllReadyH.cons rfl (fun K hK => ?_) AllReadyH.nil
        go_simp
        have hHeld := hHeld.alloc hHeld.size (.cells #[Value.int IntKind.i64 0, Value.int IntKind.i64 0, Value.int IntKind.i64 0, Value.int IntKind.i64 0, Value.int IntKind.i64 0, Value.int IntKind.i64 0, Value.int IntKind.i64 0, Value.int IntKind.i64 0, Value.int IntKind.i64 0, Value.int IntKind.i64 0, Value.int IntKind.i64 0, Value.int IntKind.i64 0, Value.int IntKind.i64 0, Value.int IntKind.i64 0, Value.int IntKind.i64 0, Value.int IntKind.i64 0, Value.int IntKind.i64 0, Value.int IntKind.i64 0, Value.int IntKind.i64 0, Value.int IntKind.i64 0, Value.int IntKind.i64 0, Value.int IntKind.i64 0, Value.int IntKind.i64 0, Value.int IntKind.i64 0, Value.int IntKind.i64 0, Value.int IntKind.i64 0, Value.int IntKind.i64 0, Value.int IntKind.i64 0, Value.int IntKind.i64 0, Value.int IntKind.i64 0, Value.int IntKind.i64 0, Value.int IntKind.i64 0] 34)
        have hm := (Below.heap_alloc _ (.cells #[Value.int IntKind.i64 0, Value.int IntKind.i64 0, Value.int IntKind.i64 0, Value.int IntKind.i64 0, Value.int IntKind.i64 0, Value.int IntKind.i64 0, Value.int IntKind.i64 0, Value.int IntKind.i64 0, Value.int IntKind.i64 0, Value.int IntKind.i64 0, Value.int IntKind.i64 0, Value.int IntKind.i64 0, Value.int IntKind.i64 0, Value.int IntKind.i64 0, Value.int IntKind.i64 0, Value.int IntKind.i64 0, Value.int IntKind.i64 0, Value.int IntKind.i64 0, Value.int IntKind.i64 0, Value.int IntKind.i64 0, Value.int IntKind.i64 0, Value.int IntKind.i64 0, Value.int IntKind.i64 0, Value.int IntKind.i64 0, Value.int IntKind.i64 0, Value.int IntKind.i64 0, Value.int IntKind.i64 0, Value.int IntKind.i64 0, Value.int IntKind.i64 0, Value.int IntKind.i64 0, Value.int IntKind.i64 0, Value.int IntKind.i64 0] 34) _ (Array.getElem?_eq_some_iff.1 hm).1).trans hm
        have ho := heap_alloc_new (wc) (.cells #[Value.int IntKind.i64 0, Value.int IntKind.i64 0, Value.int IntKind.i64 0, Value.int IntKind.i64 0, Value.int IntKind.i64 0, Value.int IntKind.i64 0, Value.int IntKind.i64 0, Value.int IntKind.i64 0, Value.int IntKind.i64 0, Value.int IntKind.i64 0, Value.int IntKind.i64 0, Value.int IntKind.i64 0, Value.int IntKind.i64 0, Value.int IntKind.i64 0, Value.int IntKind.i64 0, Value.int IntKind.i64 0, Value.int IntKind.i64 0, Value.int IntKind.i64 0, Value.int IntKind.i64 0, Value.int IntKind.i64 0, Value.int IntKind.i64 0, Value.int IntKind.i64 0, Value.int IntKind.i64 0, Value.int IntKind.i64 0, Value.int IntKind.i64 0, Value.int IntKind.i64 0, Value.int IntKind.i64 0, Value.int IntKind.i64 0, Value.int IntKind.i64 0, Value.int IntKind.i64 0, Value.int IntKind.i64 0, Value.int IntKind.i64 0] 34)
        refine hK.out _ _ hHeld (fun hHeld => ?_)
        clear hK K
        have hmb : (w1).heap.size ≤ w1.heap.size := by first | omega | (simp at hsz; omega) | (simp at hsz hsz0; omega)
        have hob : (w1).heap.size ≤ wc.heap.size := by first | omega | (simp at hsz; omega) | (simp at hsz hsz0; omega)
        have hne : w1.heap.size ≠ wc.heap.size := by first | omega | (simp at hsz; omega) | (simp at hsz hsz0; omega)
        refine wpAnyH_ready (rs := [5]) (by kernel_rfl) (by simp) ?_
        refine AllReadyH.cons rfl (fun K hK => ?_) AllReadyH.nil
        refine step_store_row (by rfl) 32 (.tmp 7) (.tmp 18) (by rfl) (w1.heap.size) (matA m) (by rfl) (by rfl) 32 _ hm (matInfo _) (by rw [matA_size]; rfl) (matA_one _) ?_
        have hHeld := setRow_below (g := w1.heap.size) (cs := matA m) hHeld hmb
        have ho := (setRow_other _ (w1.heap.size) (wc.heap.size) (matA m) (by have := hne; omega)).trans ho
        have hm := setRow_heap _ _ _ (matA m) _ _ hm
        refine hK.out _ _ hHeld (fun hHeld => ?_)
        clear hK K
        refine wpAnyH_ready (rs := [6]) (by kernel_rfl) (by simp) ?_
        refine AllReadyH.cons rfl (fun K hK => ?_) AllReadyH.nil
        refine step_store_row (by rfl) 34 (.tmp 8) (.tmp 19) (by rfl) (wc.heap.size) (ordA o) (by rfl) (by rfl) 34 _ ho (ordInfo _) (by rw [ordA_size]; rfl) (ordA_one _) ?_
        have hHeld := setRow_below (g := wc.heap.size) (cs := ordA o) hHeld hob
        have hm := (setRow_other _ (wc.heap.size) (w1.heap.size) (ordA o) (by have := hne; omega)).trans hm
        have ho := setRow_heap _ _ _ (ordA o) _ _ ho
        refine hK.out _ _ hHeld (fun hHeld => ?_)
        clear hK K
        refine wpAnyH_done (by kernel_rfl) ?_ _
        refine NoPanic.normal ?_
        exact ⟨rfl, _, _, rfl, hm, ho, hHeld⟩
      · go_simp
        have hHeld := hHeld.alloc hHeld.size (.cells #[Value.int IntKind.i64 0, Value.int IntKind.i64 0, Value.int IntKind.i64 0, Value.int IntKind.i64 0, Value.int IntKind.i64 0, Value.int IntKind.i64 0, Value.int IntKind.i64 0, Value.int IntKind.i64 0, Value.int IntKind.i64 0, Value.int IntKind.i64 0, Value.int IntKind.i64 0, Value.int IntKind.i64 0, Value.int IntKind.i64 0, Value.int IntKind.i64 0, Value.int IntKind.i64 0, Value.int IntKind.i64 0, Value.int IntKind.i64 0, Value.int IntKind.i64 0, Value.int IntKind.i64 0, Value.int IntKind.i64 0, Value.int IntKind.i64 0, Value.int IntKind.i64 0, Value.int IntKind.i64 0, Value.int IntKind.i64 0, Value.int IntKind.i64 0, Value.int IntKind.i64 0, Value.int IntKind.i64 0, Value.int IntKind.i64 0, Value.int IntKind.i64 0, Value.int IntKind.i64 0, Value.int IntKind.i64 0, Value.int IntKind.i64 0] 34)
        have hm := (Below.heap_alloc _ (.cells #[Value.int IntKind.i64 0, Value.int IntKind.i64 0, Value.int IntKind.i64 0, Value.int IntKind.i64 0, Value.int IntKind.i64 0, Value.int IntKind.i64 0, Value.int IntKind.i64 0, Value.int IntKind.i64 0, Value.int IntKind.i64 0, Value.int IntKind.i64 0, Value.int IntKind.i64 0, Value.int IntKind.i64 0, Value.int IntKind.i64 0, Value.int IntKind.i64 0, Value.int IntKind.i64 0, Value.int IntKind.i64 0, Value.int IntKind.i64 0, Value.int IntKind.i64 0, Value.int IntKind.i64 0, Value.int IntKind.i64 0, Value.int IntKind.i64 0, Value.int IntKind.i64 0, Value.int IntKind.i64 0, Value.int IntKind.i64 0, Value.int IntKind.i64 0, Value.int IntKind.i64 0, Value.int IntKind.i64 0, Value.int IntKind.i64 0, Value.int IntKind.i64 0, Value.int IntKind.i64 0, Value.int IntKind.i64 0, Value.int IntKind.i64 0] 34) _ (Array.getElem?_eq_some_iff.1 hm).1).trans hm
        have ho := heap_alloc2_new (w1.drew) (.cells #[Value.int IntKind.u64 0, Value.int IntKind.u64 0, Value.int IntKind.u64 0, Value.int IntKind.u64 0, Value.int IntKind.u64 0, Value.int IntKind.u64 0, Value.int IntKind.u64 0, Value.int IntKind.u64 0, Value.int IntKind.u64 0, Value.int IntKind.u64 0, Value.int IntKind.u64 0, Value.int IntKind.u64 0, Value.int IntKind.u64 0, Value.int IntKind.u64 0, Value.int IntKind.u64 0, Value.int IntKind.u64 0, Value.int IntKind.u64 0, Value.int IntKind.u64 0, Value.int IntKind.u64 0, Value.int IntKind.u64 0, Value.int IntKind.u64 0, Value.int IntKind.u64 0, Value.int IntKind.u64 0, Value.int IntKind.u64 0, Value.int IntKind.u64 0, Value.int IntKind.u64 0, Value.int IntKind.u64 0, Value.int IntKind.u64 0, Value.int IntKind.u64 0, Value.int IntKind.u64 0, Value.int IntKind.u64 0, Value.int IntKind.u64 0] 32) (.cells #[Value.int IntKind.i64 0, Value.int IntKind.i64 0, Value.int IntKind.i64 0, Value.int IntKind.i64 0, Value.int IntKind.i64 0, Value.int IntKind.i64 0, Value.int IntKind.i64 0, Value.int IntKind.i64 0, Value.int IntKind.i64 0, Value.int IntKind.i64 0, Value.int IntKind.i64 0, Value.int IntKind.i64 0, Value.int IntKind.i64 0, Value.int IntKind.i64 0, Value.int IntKind.i64 0, Value.int IntKind.i64 0, Value.int IntKind.i64 0, Value.int IntKind.i64 0, Value.int IntKind.i64 0, Value.int IntKind.i64 0, Value.int IntKind.i64 0, Value.int IntKind.i64 0, Value.int IntKind.i64 0, Value.int IntKind.i64 0, Value.int IntKind.i64 0, Value.int IntKind.i64 0, Value.int IntKind.i64 0, Value.int IntKind.i64 0, Value.int IntKind.i64 0, Value.int IntKind.i64 0, Value.int IntKind.i64 0, Value.int IntKind.i64 0] 34)
        refine hK.out _ _ hHeld (fun hHeld => ?_)
        clear hK K
        refine wpAnyH_ready (rs := [1]) (by kernel_rfl) (by simp) ?_
        refine AllReadyH.cons rfl (fun K hK => ?_) AllReadyH.nil
        go_simp
        refine (theirs_any m _).mono ?_
        rintro e wc ⟨rfl, hb⟩
        try go_simp
        have hHeld := hHeld.trans (hb.mono hHeld.size)
        have hm := (hb.block (w1.heap.size) (by simp <;> omega)).trans hm
        have ho := (hb.block (w1.heap.size + 1) (by simp <;> omega)).trans ho
        have hsz := hb.size
        have hsz0 := hHeld.size
        refine hK.out _ _ hHeld (fun hHeld => ?_)
        clear hK K hb
        have hmb : (w1).heap.size ≤ w1.heap.size := by first | omega | (simp at hsz; omega) | (simp at hsz hsz0; omega)
        have hob : (w1).heap.size ≤ w1.heap.size + 1 := by first | omega | (simp at hsz; omega) | (simp at hsz hsz0; omega)
        have hne : w1.heap.size ≠ w1.heap.size + 1 := by first | omega | (simp at hsz; omega) | (simp at hsz hsz0; omega)
        refine wpAnyH_ready (rs := [5]) (by kernel_rfl) (by simp) ?_
        refine AllReadyH.cons rfl (fun K hK => ?_) AllReadyH.nil
        refine step_store_row (by rfl) 32 (.tmp 7) (.tmp 18) (by rfl) (w1.heap.size) (matA m) (by rfl) (by rfl) 32 _ hm (matInfo _) (by rw [matA_size]; rfl) (matA_one _) ?_
        have hHeld := setRow_below (g := w1.heap.size) (cs := matA m) hHeld hmb
        have ho := (setRow_other _ (w1.heap.size) (w1.heap.size + 1) (matA m) (by have := hne; omega)).trans ho
        have hm := setRow_heap _ _ _ (matA m) _ _ hm
        refine hK.out _ _ hHeld (fun hHeld => ?_)
        clear hK K
        refine wpAnyH_ready (rs := [6]) (by kernel_rfl) (by simp) ?_
        refine AllReadyH.cons rfl (fun K hK => ?_) AllReadyH.nil
        refine step_store_row (by rfl) 34 (.tmp 8) (.tmp 19) (by rfl) (w1.heap.size + 1) (ordA o) (by rfl) (by rfl) 34 _ ho (ordInfo _) (by rw [ordA_size]; rfl) (ordA_one _) ?_
        have hHeld := setRow_below (g := w1.heap.size + 1) (cs := ordA o) hHeld hob
        have hm := (setRow_other _ (w1.heap.size + 1) (w1.heap.size) (ordA o) (by have := hne; omega)).trans hm
        have ho := setRow_heap _ _ _ (ordA o) _ _ ho
        refine hK.out _ _ hHeld (fun hHeld => ?_)
        clear hK K
        refine wpAnyH_done (by kernel_rfl) ?_ _
        refine NoPanic.normal ?_
        exact ⟨rfl, _, _, rfl, hm, ho, hHeld⟩
    · go_simp
      have hHeld := hHeld.alloc hHeld.size (.cells #[Value.int IntKind.i64 0, Value.int IntKind.i64 0, Value.int IntKind.i64 0, Value.int IntKind.i64 0, Value.int IntKind.i64 0, Value.int IntKind.i64 0, Value.int IntKind.i64 0, Value.int IntKind.i64 0, Value.int IntKind.i64 0, Value.int IntKind.i64 0, Value.int IntKind.i64 0, Value.int IntKind.i64 0, Value.int IntKind.i64 0, Value.int IntKind.i64 0, Value.int IntKind.i64 0, Value.int IntKind.i64 0, Value.int IntKind.i64 0, Value.int IntKind.i64 0, Value.int IntKind.i64 0, Value.int IntKind.i64 0, Value.int IntKind.i64 0, Value.int IntKind.i64 0, Value.int IntKind.i64 0, Value.int IntKind.i64 0, Value.int IntKind.i64 0, Value.int IntKind.i64 0, Value.int IntKind.i64 0, Value.int IntKind.i64 0, Value.int IntKind.i64 0, Value.int IntKind.i64 0, Value.int IntKind.i64 0, Value.int IntKind.i64 0] 34)
      have ho := heap_alloc_new (w1.drew) (.cells #[Value.int IntKind.i64 0, Value.int IntKind.i64 0, Value.int IntKind.i64 0, Value.int IntKind.i64 0, Value.int IntKind.i64 0, Value.int IntKind.i64 0, Value.int IntKind.i64 0, Value.int IntKind.i64 0, Value.int IntKind.i64 0, Value.int IntKind.i64 0, Value.int IntKind.i64 0, Value.int IntKind.i64 0, Value.int IntKind.i64 0, Value.int IntKind.i64 0, Value.int IntKind.i64 0, Value.int IntKind.i64 0, Value.int IntKind.i64 0, Value.int IntKind.i64 0, Value.int IntKind.i64 0, Value.int IntKind.i64 0, Value.int IntKind.i64 0, Value.int IntKind.i64 0, Value.int IntKind.i64 0, Value.int IntKind.i64 0, Value.int IntKind.i64 0, Value.int IntKind.i64 0, Value.int IntKind.i64 0, Value.int IntKind.i64 0, Value.int IntKind.i64 0, Value.int IntKind.i64 0, Value.int IntKind.i64 0, Value.int IntKind.i64 0] 34)
      refine hK.out _ _ hHeld (fun hHeld => ?_)
      clear hK K
      refine wpAnyH_ready (rs := [1, 3]) (by kernel_rfl) (by simp) ?_
      refine AllReadyH.cons rfl (fun K hK => ?_) (AllReadyH.cons rfl (fun K hK => ?_) AllReadyH.nil)
      · go_simp
        refine (theirs_any m _).mono ?_
        rintro e wc ⟨rfl, hb⟩
        try go_simp
        have hHeld := hHeld.trans (hb.mono hHeld.size)
        have ho := (hb.block (w1.heap.size) (by simp <;> omega)).trans ho
        have hsz := hb.size
        have hsz0 := hHeld.size
        refine hK.out _ _ hHeld (fun hHeld => ?_)
        clear hK K hb
        refine wpAnyH_ready (rs := [3]) (by kernel_rfl) (by simp) ?_
        refine AllReadyH.cons rfl (fun K hK => ?_) AllReadyH.nil
        go_simp
        have hHeld := hHeld.alloc hHeld.size (.cells #[Value.int IntKind.u64 0, Value.int IntKind.u64 0, Value.int IntKind.u64 0, Value.int IntKind.u64 0, Value.int IntKind.u64 0, Value.int IntKind.u64 0, Value.int IntKind.u64 0, Value.int IntKind.u64 0, Value.int IntKind.u64 0, Value.int IntKind.u64 0, Value.int IntKind.u64 0, Value.int IntKind.u64 0, Value.int IntKind.u64 0, Value.int IntKind.u64 0, Value.int IntKind.u64 0, Value.int IntKind.u64 0, Value.int IntKind.u64 0, Value.int IntKind.u64 0, Value.int IntKind.u64 0, Value.int IntKind.u64 0, Value.int IntKind.u64 0, Value.int IntKind.u64 0, Value.int IntKind.u64 0, Value.int IntKind.u64 0, Value.int IntKind.u64 0, Value.int IntKind.u64 0, Value.int IntKind.u64 0, Value.int IntKind.u64 0, Value.int IntKind.u64 0, Value.int IntKind.u64 0, Value.int IntKind.u64 0, Value.int IntKind.u64 0] 32)
        have ho := (Below.heap_alloc _ (.cells #[Value.int IntKind.u64 0, Value.int IntKind.u64 0, Value.int IntKind.u64 0, Value.int IntKind.u64 0, Value.int IntKind.u64 0, Value.int IntKind.u64 0, Value.int IntKind.u64 0, Value.int IntKind.u64 0, Value.int IntKind.u64 0, Value.int IntKind.u64 0, Value.int IntKind.u64 0, Value.int IntKind.u64 0, Value.int IntKind.u64 0, Value.int IntKind.u64 0, Value.int IntKind.u64 0, Value.int IntKind.u64 0, Value.int IntKind.u64 0, Value.int IntKind.u64 0, Value.int IntKind.u64 0, Value.int IntKind.u64 0, Value.int IntKind.u64 0, Value.int IntKind.u64 0, Value.int IntKind.u64 0, Value.int IntKind.u64 0, Value.int IntKind.u64 0, Value.int IntKind.u64 0, Value.int IntKind.u64 0, Value.int IntKind.u64 0, Value.int IntKind.u64 0, Value.int IntKind.u64 0, Value.int IntKind.u64 0, Value.int IntKind.u64 0] 32) _ (Array.getElem?_eq_some_iff.1 ho).1).trans ho
        have hm := heap_alloc_new (wc) (.cells #[Value.int IntKind.u64 0, Value.int IntKind.u64 0, Value.int IntKind.u64 0, Value.int IntKind.u64 0, Value.int IntKind.u64 0, Value.int IntKind.u64 0, Value.int IntKind.u64 0, Value.int IntKind.u64 0, Value.int IntKind.u64 0, Value.int IntKind.u64 0, Value.int IntKind.u64 0, Value.int IntKind.u64 0, Value.int IntKind.u64 0, Value.int IntKind.u64 0, Value.int IntKind.u64 0, Value.int IntKind.u64 0, Value.int IntKind.u64 0, Value.int IntKind.u64 0, Value.int IntKind.u64 0, Value.int IntKind.u64 0, Value.int IntKind.u64 0, Value.int IntKind.u64 0, Value.int IntKind.u64 0, Value.int IntKind.u64 0, Value.int IntKind.u64 0, Value.int IntKind.u64 0, Value.int IntKind.u64 0, Value.int IntKind.u64 0, Value.int IntKind.u64 0, Value.int IntKind.u64 0, Value.int IntKind.u64 0, Value.int IntKind.u64 0] 32)
        refine hK.out _ _ hHeld (fun hHeld => ?_)
        clear hK K
        have hmb : (w1).heap.size ≤ wc.heap.size := by first | omega | (simp at hsz; omega) | (simp at hsz hsz0; omega)
        have hob : (w1).heap.size ≤ w1.heap.size := by first | omega | (simp at hsz; omega) | (simp at hsz hsz0; omega)
        have hne : wc.heap.size ≠ w1.heap.size := by first | omega | (simp at hsz; omega) | (simp at hsz hsz0; omega)
        refine wpAnyH_ready (rs := [5]) (by kernel_rfl) (by simp) ?_
        refine AllReadyH.cons rfl (fun K hK => ?_) AllReadyH.nil
        refine step_store_row (by rfl) 32 (.tmp 7) (.tmp 18) (by rfl) (wc.heap.size) (matA m) (by rfl) (by rfl) 32 _ hm (matInfo _) (by rw [matA_size]; rfl) (matA_one _) ?_
        have hHeld := setRow_below (g := wc.heap.size) (cs := matA m) hHeld hmb
        have ho := (setRow_other _ (wc.heap.size) (w1.heap.size) (matA m) (by have := hne; omega)).trans ho
        have hm := setRow_heap _ _ _ (matA m) _ _ hm
        refine hK.out _ _ hHeld (fun hHeld => ?_)
        clear hK K
        refine wpAnyH_ready (rs := [6]) (by kernel_rfl) (by simp) ?_
        refine AllReadyH.cons rfl (fun K hK => ?_) AllReadyH.nil
        refine step_store_row (by rfl) 34 (.tmp 8) (.tmp 19) (by rfl) (w1.heap.size) (ordA o) (by rfl) (by rfl) 34 _ ho (ordInfo _) (by rw [ordA_size]; rfl) (ordA_one _) ?_
        have hHeld := setRow_below (g := w1.heap.size) (cs := ordA o) hHeld hob
        have hm := (setRow_other _ (w1.heap.size) (wc.heap.size) (ordA o) (by have := hne; omega)).trans hm
        have ho := setRow_heap _ _ _ (ordA o) _ _ ho
        refine hK.out _ _ hHeld (fun hHeld => ?_)
        clear hK K
        refine wpAnyH_done (by kernel_rfl) ?_ _
        refine NoPanic.normal ?_
        exact ⟨rfl, _, _, rfl, hm, ho, hHeld⟩
      · go_simp
        have hHeld := hHeld.alloc hHeld.size (.cells #[Value.int IntKind.u64 0, Value.int IntKind.u64 0, Value.int IntKind.u64 0, Value.int IntKind.u64 0, Value.int IntKind.u64 0, Value.int IntKind.u64 0, Value.int IntKind.u64 0, Value.int IntKind.u64 0, Value.int IntKind.u64 0, Value.int IntKind.u64 0, Value.int IntKind.u64 0, Value.int IntKind.u64 0, Value.int IntKind.u64 0, Value.int IntKind.u64 0, Value.int IntKind.u64 0, Value.int IntKind.u64 0, Value.int IntKind.u64 0, Value.int IntKind.u64 0, Value.int IntKind.u64 0, Value.int IntKind.u64 0, Value.int IntKind.u64 0, Value.int IntKind.u64 0, Value.int IntKind.u64 0, Value.int IntKind.u64 0, Value.int IntKind.u64 0, Value.int IntKind.u64 0, Value.int IntKind.u64 0, Value.int IntKind.u64 0, Value.int IntKind.u64 0, Value.int IntKind.u64 0, Value.int IntKind.u64 0, Value.int IntKind.u64 0] 32)
        have ho := (Below.heap_alloc _ (.cells #[Value.int IntKind.u64 0, Value.int IntKind.u64 0, Value.int IntKind.u64 0, Value.int IntKind.u64 0, Value.int IntKind.u64 0, Value.int IntKind.u64 0, Value.int IntKind.u64 0, Value.int IntKind.u64 0, Value.int IntKind.u64 0, Value.int IntKind.u64 0, Value.int IntKind.u64 0, Value.int IntKind.u64 0, Value.int IntKind.u64 0, Value.int IntKind.u64 0, Value.int IntKind.u64 0, Value.int IntKind.u64 0, Value.int IntKind.u64 0, Value.int IntKind.u64 0, Value.int IntKind.u64 0, Value.int IntKind.u64 0, Value.int IntKind.u64 0, Value.int IntKind.u64 0, Value.int IntKind.u64 0, Value.int IntKind.u64 0, Value.int IntKind.u64 0, Value.int IntKind.u64 0, Value.int IntKind.u64 0, Value.int IntKind.u64 0, Value.int IntKind.u64 0, Value.int IntKind.u64 0, Value.int IntKind.u64 0, Value.int IntKind.u64 0] 32) _ (Array.getElem?_eq_some_iff.1 ho).1).trans ho
        have hm := heap_alloc2_new (w1.drew) (.cells #[Value.int IntKind.i64 0, Value.int IntKind.i64 0, Value.int IntKind.i64 0, Value.int IntKind.i64 0, Value.int IntKind.i64 0, Value.int IntKind.i64 0, Value.int IntKind.i64 0, Value.int IntKind.i64 0, Value.int IntKind.i64 0, Value.int IntKind.i64 0, Value.int IntKind.i64 0, Value.int IntKind.i64 0, Value.int IntKind.i64 0, Value.int IntKind.i64 0, Value.int IntKind.i64 0, Value.int IntKind.i64 0, Value.int IntKind.i64 0, Value.int IntKind.i64 0, Value.int IntKind.i64 0, Value.int IntKind.i64 0, Value.int IntKind.i64 0, Value.int IntKind.i64 0, Value.int IntKind.i64 0, Value.int IntKind.i64 0, Value.int IntKind.i64 0, Value.int IntKind.i64 0, Value.int IntKind.i64 0, Value.int IntKind.i64 0, Value.int IntKind.i64 0, Value.int IntKind.i64 0, Value.int IntKind.i64 0, Value.int IntKind.i64 0] 34) (.cells #[Value.int IntKind.u64 0, Value.int IntKind.u64 0, Value.int IntKind.u64 0, Value.int IntKind.u64 0, Value.int IntKind.u64 0, Value.int IntKind.u64 0, Value.int IntKind.u64 0, Value.int IntKind.u64 0, Value.int IntKind.u64 0, Value.int IntKind.u64 0, Value.int IntKind.u64 0, Value.int IntKind.u64 0, Value.int IntKind.u64 0, Value.int IntKind.u64 0, Value.int IntKind.u64 0, Value.int IntKind.u64 0, Value.int IntKind.u64 0, Value.int IntKind.u64 0, Value.int IntKind.u64 0, Value.int IntKind.u64 0, Value.int IntKind.u64 0, Value.int IntKind.u64 0, Value.int IntKind.u64 0, Value.int IntKind.u64 0, Value.int IntKind.u64 0, Value.int IntKind.u64 0, Value.int IntKind.u64 0, Value.int IntKind.u64 0, Value.int IntKind.u64 0, Value.int IntKind.u64 0, Value.int IntKind.u64 0, Value.int IntKind.u64 0] 32)
        refine hK.out _ _ hHeld (fun hHeld => ?_)
        clear hK K
        refine wpAnyH_ready (rs := [1]) (by kernel_rfl) (by simp) ?_
        refine AllReadyH.cons rfl (fun K hK => ?_) AllReadyH.nil
        go_simp
        refine (theirs_any m _).mono ?_
        rintro e wc ⟨rfl, hb⟩
        try go_simp
        have hHeld := hHeld.trans (hb.mono hHeld.size)
        have hm := (hb.block (w1.heap.size + 1) (by simp <;> omega)).trans hm
        have ho := (hb.block (w1.heap.size) (by simp <;> omega)).trans ho
        have hsz := hb.size
        have hsz0 := hHeld.size
        refine hK.out _ _ hHeld (fun hHeld => ?_)
        clear hK K hb
        have hmb : (w1).heap.size ≤ w1.heap.size + 1 := by first | omega | (simp at hsz; omega) | (simp at hsz hsz0; omega)
        have hob : (w1).heap.size ≤ w1.heap.size := by first | omega | (simp at hsz; omega) | (simp at hsz hsz0; omega)
        have hne : w1.heap.size + 1 ≠ w1.heap.size := by first | omega | (simp at hsz; omega) | (simp at hsz hsz0; omega)
        refine wpAnyH_ready (rs := [5]) (by kernel_rfl) (by simp) ?_
        refine AllReadyH.cons rfl (fun K hK => ?_) AllReadyH.nil
        refine step_store_row (by rfl) 32 (.tmp 7) (.tmp 18) (by rfl) (w1.heap.size + 1) (matA m) (by rfl) (by rfl) 32 _ hm (matInfo _) (by rw [matA_size]; rfl) (matA_one _) ?_
        have hHeld := setRow_below (g := w1.heap.size + 1) (cs := matA m) hHeld hmb
        have ho := (setRow_other _ (w1.heap.size + 1) (w1.heap.size) (matA m) (by have := hne; omega)).trans ho
        have hm := setRow_heap _ _ _ (matA m) _ _ hm
        refine hK.out _ _ hHeld (fun hHeld => ?_)
        clear hK K
        refine wpAnyH_ready (rs := [6]) (by kernel_rfl) (by simp) ?_
        refine AllReadyH.cons rfl (fun K hK => ?_) AllReadyH.nil
        refine step_store_row (by rfl) 34 (.tmp 8) (.tmp 19) (by rfl) (w1.heap.size) (ordA o) (by rfl) (by rfl) 34 _ ho (ordInfo _) (by rw [ordA_size]; rfl) (ordA_one _) ?_
        have hHeld := setRow_below (g := w1.heap.size) (cs := ordA o) hHeld hob
        have hm := (setRow_other _ (w1.heap.size) (w1.heap.size + 1) (ordA o) (by have := hne; omega)).trans hm
        have ho := setRow_heap _ _ _ (ordA o) _ _ ho
        refine hK.out _ _ hHeld (fun hHeld => ?_)
        clear hK K
        refine wpAnyH_done (by kernel_rfl) ?_ _
        refine NoPanic.normal ?_
        exact ⟨rfl, _, _, rfl, hm, ho, hHeld⟩
  · rintro e a' w' ⟨rfl, gm, go, rfl, hgm, hgo, hb⟩
    have HQ := Lib.hid (TSt2.mk (HS1.out.below hb) hgm hgo)
    clear hgm hgo hb HS1
    have hk0 := HQ.out.es.c0
    have hk1 := HQ.out.es.c1
    go_wp2_with (first
      | (refine wpList_load_row rfl 32 (.tmp 7) rfl gm rfl 32 (matA m) (0, 0) _ HQ.out.tm Tryd.underlying32 rfl (matInfo _) ?_)
      | (refine wpList_load_row rfl 34 (.tmp 8) rfl go rfl 34 (ordA o) (0, 0) _ HQ.out.to Tryd.underlying34 rfl (ordInfo _) ?_))
    refine (insert_any m o ea eb _ hm HOk.out hea heb HQ.out.es.tab).mono ?_
    rintro e w2 ⟨rfl, hb2⟩
    have HQ2 := Lib.hid (HQ.out.below hb2)
    clear hb2 HQ hk0 hk1
    have HIn := Lib.hid (fun W hT => rinsert_any m o ea eb W hm hea heb hT)
    generalize Od.insert m o ea eb = r at *
    obtain ⟨X, Q, is⟩ := r
    have hk0 := HQ2.out.es.c0
    have hk1 := HQ2.out.es.c1
    go_wp2_with (first
      | (refine wpList_let2 rfl rfl 32 34 (.tmp 9) (.tmp 28) (.tmp 10) (.tmp 29) rfl rfl rfl rfl w2 X Q rfl rfl rfl rfl rfl rfl rfl mat_info ord_info ?_; intro wx hM hO hB; have HX := Lib.hid (TSt3.mk (HQ2.out.below hB) hM hO); have hk0 := HX.out.t.es.c0; have hk1 := HX.out.t.es.c1; clear hM hO hB)
      | (refine wpList_load_row rfl 24 (.tmp 3) rfl w.heap.size rfl 24 (matA m) (0, 0) _ HX.out.t.es.gr Tryd.underlying24 rfl (rmatInfo _) ?_)
      | (refine wpList_load_row rfl 26 (.tmp 4) rfl (w.heap.size + 1) rfl 26 (ordA o) (0, 0) _ HX.out.t.es.od Tryd.underlying26 rfl (rordInfo _) ?_))
    refine (HIn.out _ HX.out.t.es.tab).mono ?_
    rintro e w3 ⟨rfl, hb3⟩
    have HX3 := Lib.hid (HX.out.below hb3)
    clear hb3 HX HQ2
    go_wp2_with (refine wpList_let2 rfl rfl 24 26 (.tmp 12) (.tmp 39) (.tmp 13) (.tmp 40) rfl rfl rfl rfl w3 X Q rfl rfl rfl rfl rfl rfl rfl rmat_info rord_info ?_; intro wy hM hO hB; have HY := Lib.hid (TSt4.mk (HX3.out.below hB) hM hO); clear hM hO hB)
    have hE1 := eq_rmat X X true (sameM_self X)
    have hE2 := eq_rord Q Q true (sameO_self Q)
    have hE3 := eq_rord Od.newO Od.newO true (sameO_self Od.newO)
    refine wp_region_noPanic ?_
    refine region_start (S := TSt4 w m o ea eb gm go w2.heap.size (w2.heap.size + 1) w3.heap.size (w3.heap.size + 1) X Q) 43 rfl (by kernel_rfl) (HY.out.below (below_drew _)) (fun hHeld => ?_)
    refine take_at 0 42 (.agg (matA X)) rfl rfl (by kernel_rfl) (by kernel_rfl) (by kernel_rfl) (fun _ _ _ h => h) (yields_row (by rfl) 32 (.tmp 9) rfl (w2.heap.size) rfl 32 (matA X) (fun W h => h.t.x) Tryd.underlying32 (matInfo _)) hHeld ?_
    simp only [put_laws]
    refine take_at 2 44 (.agg (matA X)) rfl rfl (by kernel_rfl) (by kernel_rfl) (by kernel_rfl) (fun _ _ _ h => h) (yields_row (by rfl) 24 (.tmp 12) rfl (w3.heap.size) rfl 24 (matA X) (fun W h => h.y) Tryd.underlying24 (rmatInfo _)) hHeld ?_
    simp only [put_laws]
    refine wpAnyH_ready (rs := [1]) (by kernel_rfl) (by simp) ?_
    refine AllReadyH.cons rfl (fun K hK => ?_) AllReadyH.nil
    go_simp
    refine (ours_any X _).mono ?_
    rintro e v1 ⟨rfl, hb43⟩
    try go_simp
    have hHeld := hHeld.below hb43
    refine hK.out _ _ hHeld (fun hHeld => ?_)
    clear hK K
    refine take_at 3 45 (.bool true) rfl rfl (by kernel_rfl) (by kernel_rfl) (by kernel_rfl) (fun _ _ _ h => h) (Or.inl ⟨by rfl, by intro W hW; clear hW; go_simp⟩) hHeld ?_
    simp only [put_laws]
    refine take_at 4 46 (.bool true) rfl rfl (by kernel_rfl) (by kernel_rfl) (by kernel_rfl) (fun _ _ _ h => h) (Or.inl ⟨by rfl, by intro W hW; clear hW; go_simp⟩) hHeld ?_
    simp only [put_laws]
    refine take_at 5 47 (.agg (ordA Q)) rfl rfl (by kernel_rfl) (by kernel_rfl) (by kernel_rfl) (fun _ _ _ h => h) (yields_row (by rfl) 34 (.tmp 10) rfl (w2.heap.size + 1) rfl 34 (ordA Q) (fun W h => h.t.q) Tryd.underlying34 (ordInfo _)) hHeld ?_
    simp only [put_laws]
    refine take_at 6 48 (.agg (ordA Q)) rfl rfl (by kernel_rfl) (by kernel_rfl) (by kernel_rfl) (fun _ _ _ h => h) (yields_row (by rfl) 26 (.tmp 13) rfl (w3.heap.size + 1) rfl 26 (ordA Q) (fun W h => h.z) Tryd.underlying26 (rordInfo _)) hHeld ?_
    simp only [put_laws]
    refine take_at 7 49 (.bool true) rfl rfl (by kernel_rfl) (by kernel_rfl) (by kernel_rfl) (fun _ _ _ h => h) (Or.inl ⟨by rfl, by intro W hW; clear hW; go_simp⟩) hHeld ?_
    simp only [put_laws]
    refine take_at 8 50 (.bool true) rfl rfl (by kernel_rfl) (by kernel_rfl) (by kernel_rfl) (fun _ _ _ h => h) (Or.inl ⟨by rfl, by intro W hW; clear hW; go_simp⟩) hHeld ?_
    simp only [put_laws]
    refine take_at 9 51 (.bool true) rfl rfl (by kernel_rfl) (by kernel_rfl) (by kernel_rfl) (fun _ _ _ h => h) (Or.inl ⟨by rfl, by intro W hW; clear hW; go_simp⟩) hHeld ?_
    simp only [put_laws]
    refine take_at 10 52 (.bool is) rfl rfl (by kernel_rfl) (by kernel_rfl) (by kernel_rfl) (fun _ _ _ h => h) (Or.inl ⟨by rfl, by intro W hW; clear hW; go_simp⟩) hHeld ?_
    simp only [put_laws]
    refine take_at 11 53 (.bool is) rfl rfl (by kernel_rfl) (by kernel_rfl) (by kernel_rfl) (fun _ _ _ h => h) (Or.inl ⟨by rfl, by intro W hW; clear hW; go_simp⟩) hHeld ?_
    simp only [put_laws]
    refine take_at 12 54 (.bool true) rfl rfl (by kernel_rfl) (by kernel_rfl) (by kernel_rfl) (fun _ _ _ h => h) (Or.inl ⟨by rfl, by intro W hW; clear hW; go_simp⟩) hHeld ?_
    simp only [put_laws]
    refine take_at 13 55 (.bool true) rfl rfl (by kernel_rfl) (by kernel_rfl) (by kernel_rfl) (fun _ _ _ h => h) (Or.inl ⟨by rfl, by intro W hW; clear hW; go_simp⟩) hHeld ?_
    simp only [put_laws]
    refine take_at 14 56 (.bool true) rfl rfl (by kernel_rfl) (by kernel_rfl) (by kernel_rfl) (fun _ _ _ h => h) (Or.inl ⟨by rfl, by intro W hW; clear hW; go_simp⟩) hHeld ?_
    simp only [put_laws]
    refine take_at 15 57 (.agg (ordA o)) rfl rfl (by kernel_rfl) (by kernel_rfl) (by kernel_rfl) (fun _ _ _ h => h) (yields_row (by rfl) 34 (.tmp 8) rfl (go) rfl 34 (ordA o) (fun W h => h.t.t.to) Tryd.underlying34 (ordInfo _)) hHeld ?_
    simp only [put_laws]
    refine take_at 17 59 (.agg (ordA o)) rfl rfl (by kernel_rfl) (by kernel_rfl) (by kernel_rfl) (fun _ _ _ h => h) (yields_row (by rfl) 26 (.tmp 4) rfl (w.heap.size + 1) rfl 26 (ordA o) (fun W h => h.t.t.es.od) Tryd.underlying26 (rordInfo _)) hHeld ?_
    simp only [put_laws]
    refine wpAnyH_ready (rs := [16]) (by kernel_rfl) (by simp) ?_
    refine AllReadyH.cons rfl (fun K hK => ?_) AllReadyH.nil
    go_simp
    refine (right_any o _ HOk.out).mono ?_
    rintro e v2 ⟨rfl, hb58⟩
    try go_simp
    have hHeld := hHeld.below hb58
    refine hK.out _ _ hHeld (fun hHeld => ?_)
    clear hK K
    refine wpAnyH_ready (rs := [18]) (by kernel_rfl) (by simp) ?_
    refine AllReadyH.cons rfl (fun K hK => ?_) AllReadyH.nil
    go_simp
    refine (rright_any o _).mono ?_
    rintro e v3 ⟨rfl, hb60⟩
    try go_simp
    have hHeld := hHeld.below hb60
    refine hK.out _ _ hHeld (fun hHeld => ?_)
    clear hK K
    refine take_at 19 61 (.bool true) rfl rfl (by kernel_rfl) (by kernel_rfl) (by kernel_rfl) (fun _ _ _ h => h) (Or.inl ⟨by rfl, by intro W hW; clear hW; go_simp⟩) hHeld ?_
    simp only [put_laws]
    refine take_at 20 62 (.bool true) rfl rfl (by kernel_rfl) (by kernel_rfl) (by kernel_rfl) (fun _ _ _ h => h) (Or.inl ⟨by rfl, by intro W hW; clear hW; go_simp⟩) hHeld ?_
    simp only [put_laws]
    refine take_at 21 63 (.bool true) rfl rfl (by kernel_rfl) (by kernel_rfl) (by kernel_rfl) (fun _ _ _ h => h) (Or.inl ⟨by rfl, by intro W hW; clear hW; go_simp⟩) hHeld ?_
    simp only [put_laws]
    refine take_at 22 64 (.agg (matA m)) rfl rfl (by kernel_rfl) (by kernel_rfl) (by kernel_rfl) (fun _ _ _ h => h) (yields_row (by rfl) 32 (.tmp 7) rfl (gm) rfl 32 (matA m) (fun W h => h.t.t.tm) Tryd.underlying32 (matInfo _)) hHeld ?_
    simp only [put_laws]
    refine take_at 23 65 (.agg (ordA o)) rfl rfl (by kernel_rfl) (by kernel_rfl) (by kernel_rfl) (fun _ _ _ h => h) (yields_row (by rfl) 34 (.tmp 8) rfl (go) rfl 34 (ordA o) (fun W h => h.t.t.to) Tryd.underlying34 (ordInfo _)) hHeld ?_
    simp only [put_laws]
    refine take_at 25 67 (.agg (matA m)) rfl rfl (by kernel_rfl) (by kernel_rfl) (by kernel_rfl) (fun _ _ _ h => h) (yields_row (by rfl) 24 (.tmp 3) rfl (w.heap.size) rfl 24 (matA m) (fun W h => h.t.t.es.gr) Tryd.underlying24 (rmatInfo _)) hHeld ?_
    simp only [put_laws]
    refine take_at 26 68 (.agg (ordA o)) rfl rfl (by kernel_rfl) (by kernel_rfl) (by kernel_rfl) (fun _ _ _ h => h) (yields_row (by rfl) 26 (.tmp 4) rfl (w.heap.size + 1) rfl 26 (ordA o) (fun W h => h.t.t.es.od) Tryd.underlying26 (rordInfo _)) hHeld ?_
    simp only [put_laws]
    refine wpAnyH_ready (rs := [24]) (by kernel_rfl) (by simp) ?_
    refine AllReadyH.cons rfl (fun K hK => ?_) AllReadyH.nil
    go_simp
    refine (sorted_any m o _ hm HOk.out hHeld.t.t.es.tab).mono ?_
    rintro e v4 ⟨rfl, hb66⟩
    try go_simp
    have hHeld := hHeld.below hb66
    refine hK.out _ _ hHeld (fun hHeld => ?_)
    clear hK K
    refine wpAnyH_ready (rs := [27]) (by kernel_rfl) (by simp) ?_
    refine AllReadyH.cons rfl (fun K hK => ?_) AllReadyH.nil
    go_simp
    refine (rsorted_any m o _ hm).mono ?_
    rintro e v5 ⟨rfl, hb69⟩
    try go_simp
    have hHeld := hHeld.below hb69
    refine hK.out _ _ hHeld (fun hHeld => ?_)
    clear hK K
    refine take_at 28 70 (.bool true) rfl rfl (by kernel_rfl) (by kernel_rfl) (by kernel_rfl) (fun _ _ _ h => h) (Or.inl ⟨by rfl, by intro W hW; clear hW; go_simp⟩) hHeld ?_
    simp only [put_laws]
    refine take_at 29 71 (.bool true) rfl rfl (by kernel_rfl) (by kernel_rfl) (by kernel_rfl) (fun _ _ _ h => h) (Or.inl ⟨by rfl, by intro W hW; clear hW; go_simp⟩) hHeld ?_
    simp only [put_laws]
    refine take_at 30 72 (.bool true) rfl rfl (by kernel_rfl) (by kernel_rfl) (by kernel_rfl) (fun _ _ _ h => h) (Or.inl ⟨by rfl, by intro W hW; clear hW; go_simp⟩) hHeld ?_
    simp only [put_laws]
    refine take_at 31 73 (.agg (ordA o)) rfl rfl (by kernel_rfl) (by kernel_rfl) (by kernel_rfl) (fun _ _ _ h => h) (yields_row (by rfl) 34 (.tmp 8) rfl (go) rfl 34 (ordA o) (fun W h => h.t.t.to) Tryd.underlying34 (ordInfo _)) hHeld ?_
    simp only [put_laws]
    refine take_at 33 75 (.agg (ordA o)) rfl rfl (by kernel_rfl) (by kernel_rfl) (by kernel_rfl) (fun _ _ _ h => h) (yields_row (by rfl) 26 (.tmp 4) rfl (w.heap.size + 1) rfl 26 (ordA o) (fun W h => h.t.t.es.od) Tryd.underlying26 (rordInfo _)) hHeld ?_
    simp only [put_laws]
    refine wpAnyH_ready (rs := [32]) (by kernel_rfl) (by simp) ?_
    refine AllReadyH.cons rfl (fun K hK => ?_) AllReadyH.nil
    go_simp
    refine (row_yes o _ HR.out).mono ?_
    rintro e v6 ⟨va, rfl, hoa, hb74⟩
    try go_simp
    have hHeld := hHeld.below hb74
    refine hK.out _ _ hHeld (fun hHeld => ?_)
    clear hK K
    refine wpAnyH_ready (rs := [34]) (by kernel_rfl) (by simp) ?_
    refine AllReadyH.cons rfl (fun K hK => ?_) AllReadyH.nil
    go_simp
    refine (rrow_yes o _ HR.out).mono ?_
    rintro e v7 ⟨vb, rfl, hob, hb76⟩
    try go_simp
    have hHeld := hHeld.below hb76
    refine hK.out _ _ hHeld (fun hHeld => ?_)
    clear hK K
    refine wpAnyH_ready (rs := [35]) (by kernel_rfl) (by simp) ?_
    refine AllReadyH.cons rfl (fun K hK => ?_) AllReadyH.nil
    go_simp
    refine (same_rows HR.out (hoa.below hb76 (Nat.le_refl _)) hob).mono ?_
    rintro e v8 ⟨rfl, hb77⟩
    try go_simp
    have hHeld := hHeld.below hb77
    refine hK.out _ _ hHeld (fun hHeld => ?_)
    clear hK K
    refine take_at 36 78 (.bool true) rfl rfl (by kernel_rfl) (by kernel_rfl) (by kernel_rfl) (fun _ _ _ h => h) (Or.inl ⟨by rfl, by intro W hW; clear hW; go_simp⟩) hHeld ?_
    simp only [put_laws]
    refine take_at 37 79 (.bool true) rfl rfl (by kernel_rfl) (by kernel_rfl) (by kernel_rfl) (fun _ _ _ h => h) (Or.inl ⟨by rfl, by intro W hW; clear hW; go_simp⟩) hHeld ?_
    simp only [put_laws]
    refine wpAnyH_ready (rs := [38]) (by kernel_rfl) (by simp) ?_
    refine AllReadyH.cons rfl (fun K hK => ?_) AllReadyH.nil
    go_simp
    refine (new_any _).mono ?_
    rintro e v9 ⟨rfl, hb80⟩
    try go_simp
    have hHeld := hHeld.below hb80
    refine hK.out _ _ hHeld (fun hHeld => ?_)
    clear hK K
    refine wpAnyH_ready (rs := [39]) (by kernel_rfl) (by simp) ?_
    refine AllReadyH.cons rfl (fun K hK => ?_) AllReadyH.nil
    go_simp
    refine (rnew_any _).mono ?_
    rintro e v10 ⟨rfl, hb81⟩
    try go_simp
    have hHeld := hHeld.below hb81
    refine hK.out _ _ hHeld (fun hHeld => ?_)
    clear hK K
    refine take_at 40 82 (.bool true) rfl rfl (by kernel_rfl) (by kernel_rfl) (by kernel_rfl) (fun _ _ _ h => h) (Or.inl ⟨by rfl, by intro W hW; clear hW; go_simp⟩) hHeld ?_
    simp only [put_laws]
    refine take_at 41 83 (.bool true) rfl rfl (by kernel_rfl) (by kernel_rfl) (by kernel_rfl) (fun _ _ _ h => h) (Or.inl ⟨by rfl, by intro W hW; clear hW; go_simp⟩) hHeld ?_
    simp only [put_laws]
    refine take_at 42 6 (.bool true) rfl rfl (by kernel_rfl) (by kernel_rfl) (by kernel_rfl) (fun _ _ _ h => h) (Or.inl ⟨by rfl, by intro W hW; clear hW; go_simp⟩) hHeld ?_
    simp only [put_laws]
    refine wpAnyH_done (by kernel_rfl) ?_ _
    refine NoPanic.normal ?_
    go_wp2
    go_ret
    exact ⟨rfl, hHeld.t.t.es.bel⟩
set_option maxHeartbeats 8000000 in
set_option maxRecDepth 100000 in
theorem topoTells_no (m : Mm.Gr) (o : Od.O) (ea eb : Int) (w : World) (hm : Mm.Ok m) (hok : Od.Ok o) (hr : ¬ Od.Right o) (hea : -9223372036854775808 ≤ ea ∧ ea ≤ 9223372036854775807) (heb : -9223372036854775808 ≤ eb ∧ eb ≤ 9223372036854775807) (hT : TabAt w) :
    Calls Tryd.prog 3 #[.agg (matA m), .agg (ordA o), .agg #[.int .i64 ea, .int .i64 eb]] w fun e w' => e = .returned (.bool true) ∧ Below w.heap.size w w' := by
  have HP := Lib.hid (est_first m o ea eb hT)
  have HNR := Lib.hid hr
  have HOk := Lib.hid hok
  clear hT hr hok
  go_enter Tryd.func3, Tryd.ntmps3
  go_wp2_with fail
  refine (alive_any _ HP.out.tab).mono ?_
  rintro e w1 ⟨rfl, hb1⟩
  have HS1 := Lib.hid (HP.out.below hb1)
  clear hb1 HP
  go_wp2_with fail
  refine wp_mono (Q := fun e a' w' => e = .normal ∧ (∃ gm go, a' = { tmps := #[.agg (matA m), .agg (ordA o), .agg #[.int .i64 ea, .int .i64 eb], .pointer (some ⟨w.heap.size, 0, none⟩), .pointer (some ⟨w.heap.size + 1, 0, none⟩), .pointer (some ⟨w.heap.size + 2, 0, none⟩), .bool false, .pointer (some ⟨gm, 0, none⟩), .pointer (some ⟨go, 0, none⟩), undef, undef, undef, undef, undef, undef, .bool true, .bool false, .agg (matA m), .agg (matA m), .agg (ordA o), undef, undef, undef, undef, undef, undef, undef, undef, undef, undef, undef, undef, undef, undef, undef, undef, undef, undef, undef, undef, undef, undef, undef, undef, undef, undef, undef, undef, undef, undef, undef, undef, undef, undef, undef, undef, undef, undef, undef, undef, undef, undef, undef, undef, undef, undef, undef, undef, undef, undef, undef, undef, undef, undef, undef, undef, undef, undef, undef, undef, undef, undef, undef, undef], defers := [] } ∧ MatAt w' gm m 32 ∧ OrdAt w' go o 34 ∧ Below (w1).heap.size (w1) w')) ?_ ?_
  · refine wp_region_noPanic ?_
    refine region_start (S := Below (w1).heap.size (w1)) 7 rfl (by kernel_rfl) (below_drew _) (fun hHeld => ?_)
    refine take_at 0 17 (.agg (matA m)) rfl rfl (by kernel_rfl) (by kernel_rfl) (by kernel_rfl) (fun _ _ _ h => h) (yields_row (by rfl) 24 (.tmp 3) rfl (w.heap.size) rfl 24 (matA m) (fun W h => (HS1.out.below h).gr) Tryd.underlying24 (rmatInfo _)) hHeld ?_
    simp only [put_laws]
    refine take_at 2 19 (.agg (ordA o)) rfl rfl (by kernel_rfl) (by kernel_rfl) (by kernel_rfl) (fun _ _ _ h => h) (yields_row (by rfl) 26 (.tmp 4) rfl (w.heap.size + 1) rfl 26 (ordA o) (fun W h => (HS1.out.below h).od) Tryd.underlying26 (rordInfo _)) hHeld ?_
    simp only [put_laws]
    refine wpAnyH_ready (rs := [1, 3, 4]) (by kernel_rfl) (by simp) ?_
    refine AllReadyH.cons rfl (fun K hK => ?_) (AllReadyH.cons rfl (fun K hK => ?_) (AllReadyH.cons rfl (fun K hK => ?_) AllReadyH.nil))
    · go_simp
      refine (theirs_any m _).mono ?_
      rintro e wc ⟨rfl, hb⟩
      try go_simp
      have hHeld := hHeld.trans (hb.mono hHeld.size)
      have hsz := hb.size
      have hsz0 := hHeld.size
      refine hK.out _ _ hHeld (fun hHeld => ?_)
      clear hK K hb
      refine wpAnyH_ready (rs := [3, 4]) (by kernel_rfl) (by simp) ?_
      refine AllReadyH.cons rfl (fun K hK => ?_) (AllReadyH.cons rfl (fun K hK => ?_) AllReadyH.nil)
      · go_simp
        have hHeld := hHeld.alloc hHeld.size (.cells #[Value.int IntKind.u64 0, Value.int IntKind.u64 0, Value.int IntKind.u64 0, Value.int IntKind.u64 0, Value.int IntKind.u64 0, Value.int IntKind.u64 0, Value.int IntKind.u64 0, Value.int IntKind.u64 0, Value.int IntKind.u64 0, Value.int IntKind.u64 0, Value.int IntKind.u64 0, Value.int IntKind.u64 0, Value.int IntKind.u64 0, Value.int IntKind.u64 0, Value.int IntKind.u64 0, Value.int IntKind.u64 0, Value.int IntKind.u64 0, Value.int IntKind.u64 0, Value.int IntKind.u64 0, Value.int IntKind.u64 0, Value.int IntKind.u64 0, Value.int IntKind.u64 0, Value.int IntKind.u64 0, Value.int IntKind.u64 0, Value.int IntKind.u64 0, Value.int IntKind.u64 0, Value.int IntKind.u64 0, Value.int IntKind.u64 0, Value.int IntKind.u64 0, Value.int IntKind.u64 0, Value.int IntKind.u64 0, Value.int IntKind.u64 0] 32)
        have hm := heap_alloc_new (wc) (.cells #[Value.int IntKind.u64 0, Value.int IntKind.u64 0, Value.int IntKind.u64 0, Value.int IntKind.u64 0, Value.int IntKind.u64 0, Value.int IntKind.u64 0, Value.int IntKind.u64 0, Value.int IntKind.u64 0, Value.int IntKind.u64 0, Value.int IntKind.u64 0, Value.int IntKind.u64 0, Value.int IntKind.u64 0, Value.int IntKind.u64 0, Value.int IntKind.u64 0, Value.int IntKind.u64 0, Value.int IntKind.u64 0, Value.int IntKind.u64 0, Value.int IntKind.u64 0, Value.int IntKind.u64 0, Value.int IntKind.u64 0, Value.int IntKind.u64 0, Value.int IntKind.u64 0, Value.int IntKind.u64 0, Value.int IntKind.u64 0, Value.int IntKind.u64 0, Value.int IntKind.u64 0, Value.int IntKind.u64 0, Value.int IntKind.u64 0, Value.int IntKind.u64 0, Value.int IntKind.u64 0, Value.int IntKind.u64 0, Value.int IntKind.u64 0] 32)
        refine hK.out _ _ hHeld (fun hHeld => ?_)
        clear hK K
        refine wpAnyH_ready (rs := [4]) (by kernel_rfl) (by simp) ?_
        refine AllReadyH.cons rfl (fun K hK => ?_) AllReadyH.nil
        go_simp
        have hHeld := hHeld.alloc hHeld.size (.cells #[Value.int IntKind.i64 0, Value.int IntKind.i64 0, Value.int IntKind.i64 0, Value.int IntKind.i64 0, Value.int IntKind.i64 0, Value.int IntKind.i64 0, Value.int IntKind.i64 0, Value.int IntKind.i64 0, Value.int IntKind.i64 0, Value.int IntKind.i64 0, Value.int IntKind.i64 0, Value.int IntKind.i64 0, Value.int IntKind.i64 0, Value.int IntKind.i64 0, Value.int IntKind.i64 0, Value.int IntKind.i64 0, Value.int IntKind.i64 0, Value.int IntKind.i64 0, Value.int IntKind.i64 0, Value.int IntKind.i64 0, Value.int IntKind.i64 0, Value.int IntKind.i64 0, Value.int IntKind.i64 0, Value.int IntKind.i64 0, Value.int IntKind.i64 0, Value.int IntKind.i64 0, Value.int IntKind.i64 0, Value.int IntKind.i64 0, Value.int IntKind.i64 0, Value.int IntKind.i64 0, Value.int IntKind.i64 0, Value.int IntKind.i64 0] 34)
        have hm := (Below.heap_alloc _ (.cells #[Value.int IntKind.i64 0, Value.int IntKind.i64 0, Value.int IntKind.i64 0, Value.int IntKind.i64 0, Value.int IntKind.i64 0, Value.int IntKind.i64 0, Value.int IntKind.i64 0, Value.int IntKind.i64 0, Value.int IntKind.i64 0, Value.int IntKind.i64 0, Value.int IntKind.i64 0, Value.int IntKind.i64 0, Value.int IntKind.i64 0, Value.int IntKind.i64 0, Value.int IntKind.i64 0, Value.int IntKind.i64 0, Value.int IntKind.i64 0, Value.int IntKind.i64 0, Value.int IntKind.i64 0, Value.int IntKind.i64 0, Value.int IntKind.i64 0, Value.int IntKind.i64 0, Value.int IntKind.i64 0, Value.int IntKind.i64 0, Value.int IntKind.i64 0, Value.int IntKind.i64 0, Value.int IntKind.i64 0, Value.int IntKind.i64 0, Value.int IntKind.i64 0, Value.int IntKind.i64 0, Value.int IntKind.i64 0, Value.int IntKind.i64 0] 34) _ (Array.getElem?_eq_some_iff.1 hm).1).trans hm
        have ho := heap_alloc2_new (wc) (.cells #[Value.int IntKind.u64 0, Value.int IntKind.u64 0, Value.int IntKind.u64 0, Value.int IntKind.u64 0, Value.int IntKind.u64 0, Value.int IntKind.u64 0, Value.int IntKind.u64 0, Value.int IntKind.u64 0, Value.int IntKind.u64 0, Value.int IntKind.u64 0, Value.int IntKind.u64 0, Value.int IntKind.u64 0, Value.int IntKind.u64 0, Value.int IntKind.u64 0, Value.int IntKind.u64 0, Value.int IntKind.u64 0, Value.int IntKind.u64 0, Value.int IntKind.u64 0, Value.int IntKind.u64 0, Value.int IntKind.u64 0, Value.int IntKind.u64 0, Value.int IntKind.u64 0, Value.int IntKind.u64 0, Value.int IntKind.u64 0, Value.int IntKind.u64 0, Value.int IntKind.u64 0, Value.int IntKind.u64 0, Value.int IntKind.u64 0, Value.int IntKind.u64 0, Value.int IntKind.u64 0, Value.int IntKind.u64 0, Value.int IntKind.u64 0] 32) (.cells #[Value.int IntKind.i64 0, Value.int IntKind.i64 0, Value.int IntKind.i64 0, Value.int IntKind.i64 0, Value.int IntKind.i64 0, Value.int IntKind.i64 0, Value.int IntKind.i64 0, Value.int IntKind.i64 0, Value.int IntKind.i64 0, Value.int IntKind.i64 0, Value.int IntKind.i64 0, Value.int IntKind.i64 0, Value.int IntKind.i64 0, Value.int IntKind.i64 0, Value.int IntKind.i64 0, Value.int IntKind.i64 0, Value.int IntKind.i64 0, Value.int IntKind.i64 0, Value.int IntKind.i64 0, Value.int IntKind.i64 0, Value.int IntKind.i64 0, Value.int IntKind.i64 0, Value.int IntKind.i64 0, Value.int IntKind.i64 0, Value.int IntKind.i64 0, Value.int IntKind.i64 0, Value.int IntKind.i64 0, Value.int IntKind.i64 0, Value.int IntKind.i64 0, Value.int IntKind.i64 0, Value.int IntKind.i64 0, Value.int IntKind.i64 0] 34)
        refine hK.out _ _ hHeld (fun hHeld => ?_)
        clear hK K
        have hmb : (w1).heap.size ≤ wc.heap.size := by first | omega | (simp at hsz; omega) | (simp at hsz hsz0; omega)
        have hob : (w1).heap.size ≤ wc.heap.size + 1 := by first | omega | (simp at hsz; omega) | (simp at hsz hsz0; omega)
        have hne : wc.heap.size ≠ wc.heap.size + 1 := by first | omega | (simp at hsz; omega) | (simp at hsz hsz0; omega)
        refine wpAnyH_ready (rs := [5]) (by kernel_rfl) (by simp) ?_
        refine AllReadyH.cons rfl (fun K hK => ?_) AllReadyH.nil
        refine step_store_row (by rfl) 32 (.tmp 7) (.tmp 18) (by rfl) (wc.heap.size) (matA m) (by rfl) (by rfl) 32 _ hm (matInfo _) (by rw [matA_size]; rfl) (matA_one _) ?_
        have hHeld := setRow_below (g := wc.heap.size) (cs := matA m) hHeld hmb
        have ho := (setRow_other _ (wc.heap.size) (wc.heap.size + 1) (matA m) (by have := hne; omega)).trans ho
        have hm := setRow_heap _ _ _ (matA m) _ _ hm
        refine hK.out _ _ hHeld (fun hHeld => ?_)
        clear hK K
        refine wpAnyH_ready (rs := [6]) (by kernel_rfl) (by simp) ?_
        refine AllReadyH.cons rfl (fun K hK => ?_) AllReadyH.nil
        refine step_store_row (by rfl) 34 (.tmp 8) (.tmp 19) (by rfl) (wc.heap.size + 1) (ordA o) (by rfl) (by rfl) 34 _ ho (ordInfo _) (by rw [ordA_size]; rfl) (ordA_one _) ?_
        have hHeld := setRow_below (g := wc.heap.size + 1) (cs := ordA o) hHeld hob
        have hm := (setRow_other _ (wc.heap.size + 1) (wc.heap.size) (ordA o) (by have := hne; omega)).trans hm
        have ho := setRow_heap _ _ _ (ordA o) _ _ ho
        refine hK.out _ _ hHeld (fun hHeld => ?_)
        clear hK K
        refine wpAnyH_done (by kernel_rfl) ?_ _
        refine NoPanic.normal ?_
        exact ⟨rfl, _, _, rfl, hm, ho, hHeld⟩
      · go_simp
        have hHeld := hHeld.alloc hHeld.size (.cells #[Value.int IntKind.i64 0, Value.int IntKind.i64 0, Value.int IntKind.i64 0, Value.int IntKind.i64 0, Value.int IntKind.i64 0, Value.int IntKind.i64 0, Value.int IntKind.i64 0, Value.int IntKind.i64 0, Value.int IntKind.i64 0, Value.int IntKind.i64 0, Value.int IntKind.i64 0, Value.int IntKind.i64 0, Value.int IntKind.i64 0, Value.int IntKind.i64 0, Value.int IntKind.i64 0, Value.int IntKind.i64 0, Value.int IntKind.i64 0, Value.int IntKind.i64 0, Value.int IntKind.i64 0, Value.int IntKind.i64 0, Value.int IntKind.i64 0, Value.int IntKind.i64 0, Value.int IntKind.i64 0, Value.int IntKind.i64 0, Value.int IntKind.i64 0, Value.int IntKind.i64 0, Value.int IntKind.i64 0, Value.int IntKind.i64 0, Value.int IntKind.i64 0, Value.int IntKind.i64 0, Value.int IntKind.i64 0, Value.int IntKind.i64 0] 34)
        have ho := heap_alloc_new (wc) (.cells #[Value.int IntKind.i64 0, Value.int IntKind.i64 0, Value.int IntKind.i64 0, Value.int IntKind.i64 0, Value.int IntKind.i64 0, Value.int IntKind.i64 0, Value.int IntKind.i64 0, Value.int IntKind.i64 0, Value.int IntKind.i64 0, Value.int IntKind.i64 0, Value.int IntKind.i64 0, Value.int IntKind.i64 0, Value.int IntKind.i64 0, Value.int IntKind.i64 0, Value.int IntKind.i64 0, Value.int IntKind.i64 0, Value.int IntKind.i64 0, Value.int IntKind.i64 0, Value.int IntKind.i64 0, Value.int IntKind.i64 0, Value.int IntKind.i64 0, Value.int IntKind.i64 0, Value.int IntKind.i64 0, Value.int IntKind.i64 0, Value.int IntKind.i64 0, Value.int IntKind.i64 0, Value.int IntKind.i64 0, Value.int IntKind.i64 0, Value.int IntKind.i64 0, Value.int IntKind.i64 0, Value.int IntKind.i64 0, Value.int IntKind.i64 0] 34)
        refine hK.out _ _ hHeld (fun hHeld => ?_)
        clear hK K
        refine wpAnyH_ready (rs := [3]) (by kernel_rfl) (by simp) ?_
        refine AllReadyH.cons rfl (fun K hK => ?_) AllReadyH.nil
        go_simp
        have hHeld := hHeld.alloc hHeld.size (.cells #[Value.int IntKind.u64 0, Value.int IntKind.u64 0, Value.int IntKind.u64 0, Value.int IntKind.u64 0, Value.int IntKind.u64 0, Value.int IntKind.u64 0, Value.int IntKind.u64 0, Value.int IntKind.u64 0, Value.int IntKind.u64 0, Value.int IntKind.u64 0, Value.int IntKind.u64 0, Value.int IntKind.u64 0, Value.int IntKind.u64 0, Value.int IntKind.u64 0, Value.int IntKind.u64 0, Value.int IntKind.u64 0, Value.int IntKind.u64 0, Value.int IntKind.u64 0, Value.int IntKind.u64 0, Value.int IntKind.u64 0, Value.int IntKind.u64 0, Value.int IntKind.u64 0, Value.int IntKind.u64 0, Value.int IntKind.u64 0, Value.int IntKind.u64 0, Value.int IntKind.u64 0, Value.int IntKind.u64 0, Value.int IntKind.u64 0, Value.int IntKind.u64 0, Value.int IntKind.u64 0, Value.int IntKind.u64 0, Value.int IntKind.u64 0] 32)
        have ho := (Below.heap_alloc _ (.cells #[Value.int IntKind.u64 0, Value.int IntKind.u64 0, Value.int IntKind.u64 0, Value.int IntKind.u64 0, Value.int IntKind.u64 0, Value.int IntKind.u64 0, Value.int IntKind.u64 0, Value.int IntKind.u64 0, Value.int IntKind.u64 0, Value.int IntKind.u64 0, Value.int IntKind.u64 0, Value.int IntKind.u64 0, Value.int IntKind.u64 0, Value.int IntKind.u64 0, Value.int IntKind.u64 0, Value.int IntKind.u64 0, Value.int IntKind.u64 0, Value.int IntKind.u64 0, Value.int IntKind.u64 0, Value.int IntKind.u64 0, Value.int IntKind.u64 0, Value.int IntKind.u64 0, Value.int IntKind.u64 0, Value.int IntKind.u64 0, Value.int IntKind.u64 0, Value.int IntKind.u64 0, Value.int IntKind.u64 0, Value.int IntKind.u64 0, Value.int IntKind.u64 0, Value.int IntKind.u64 0, Value.int IntKind.u64 0, Value.int IntKind.u64 0] 32) _ (Array.getElem?_eq_some_iff.1 ho).1).trans ho
        have hm := heap_alloc2_new (wc) (.cells #[Value.int IntKind.i64 0, Value.int IntKind.i64 0, Value.int IntKind.i64 0, Value.int IntKind.i64 0, Value.int IntKind.i64 0, Value.int IntKind.i64 0, Value.int IntKind.i64 0, Value.int IntKind.i64 0, Value.int IntKind.i64 0, Value.int IntKind.i64 0, Value.int IntKind.i64 0, Value.int IntKind.i64 0, Value.int IntKind.i64 0, Value.int IntKind.i64 0, Value.int IntKind.i64 0, Value.int IntKind.i64 0, Value.int IntKind.i64 0, Value.int IntKind.i64 0, Value.int IntKind.i64 0, Value.int IntKind.i64 0, Value.int IntKind.i64 0, Value.int IntKind.i64 0, Value.int IntKind.i64 0, Value.int IntKind.i64 0, Value.int IntKind.i64 0, Value.int IntKind.i64 0, Value.int IntKind.i64 0, Value.int IntKind.i64 0, Value.int IntKind.i64 0, Value.int IntKind.i64 0, Value.int IntKind.i64 0, Value.int IntKind.i64 0] 34) (.cells #[Value.int IntKind.u64 0, Value.int IntKind.u64 0, Value.int IntKind.u64 0, Value.int IntKind.u64 0, Value.int IntKind.u64 0, Value.int IntKind.u64 0, Value.int IntKind.u64 0, Value.int IntKind.u64 0, Value.int IntKind.u64 0, Value.int IntKind.u64 0, Value.int IntKind.u64 0, Value.int IntKind.u64 0, Value.int IntKind.u64 0, Value.int IntKind.u64 0, Value.int IntKind.u64 0, Value.int IntKind.u64 0, Value.int IntKind.u64 0, Value.int IntKind.u64 0, Value.int IntKind.u64 0, Value.int IntKind.u64 0, Value.int IntKind.u64 0, Value.int IntKind.u64 0, Value.int IntKind.u64 0, Value.int IntKind.u64 0, Value.int IntKind.u64 0, Value.int IntKind.u64 0, Value.int IntKind.u64 0, Value.int IntKind.u64 0, Value.int IntKind.u64 0, Value.int IntKind.u64 0, Value.int IntKind.u64 0, Value.int IntKind.u64 0] 32)
        refine hK.out _ _ hHeld (fun hHeld => ?_)
        clear hK K
        have hmb : (w1).heap.size ≤ wc.heap.size + 1 := by first | omega | (simp at hsz; omega) | (simp at hsz hsz0; omega)
        have hob : (w1).heap.size ≤ wc.heap.size := by first | omega | (simp at hsz; omega) | (simp at hsz hsz0; omega)
        have hne : wc.heap.size + 1 ≠ wc.heap.size := by first | omega | (simp at hsz; omega) | (simp at hsz hsz0; omega)
        refine wpAnyH_ready (rs := [5]) (by kernel_rfl) (by simp) ?_
        refine AllReadyH.cons rfl (fun K hK => ?_) AllReadyH.nil
        refine step_store_row (by rfl) 32 (.tmp 7) (.tmp 18) (by rfl) (wc.heap.size + 1) (matA m) (by rfl) (by rfl) 32 _ hm (matInfo _) (by rw [matA_size]; rfl) (matA_one _) ?_
        have hHeld := setRow_below (g := wc.heap.size + 1) (cs := matA m) hHeld hmb
        have ho := (setRow_other _ (wc.heap.size + 1) (wc.heap.size) (matA m) (by have := hne; omega)).trans ho
        have hm := setRow_heap _ _ _ (matA m) _ _ hm
        refine hK.out _ _ hHeld (fun hHeld => ?_)
        clear hK K
        refine wpAnyH_ready (rs := [6]) (by kernel_rfl) (by simp) ?_
        refine AllReadyH.cons rfl (fun K hK => ?_) AllReadyH.nil
        refine step_store_row (by rfl) 34 (.tmp 8) (.tmp 19) (by rfl) (wc.heap.size) (ordA o) (by rfl) (by rfl) 34 _ ho (ordInfo _) (by rw [ordA_size]; rfl) (ordA_one _) ?_
        have hHeld := setRow_below (g := wc.heap.size) (cs := ordA o) hHeld hob
        have hm := (setRow_other _ (wc.heap.size) (wc.heap.size + 1) (ordA o) (by have := hne; omega)).trans hm
        have ho := setRow_heap _ _ _ (ordA o) _ _ ho
        refine hK.out _ _ hHeld (fun hHeld => ?_)
        clear hK K
        refine wpAnyH_done (by kernel_rfl) ?_ _
        refine NoPanic.normal ?_
        exact ⟨rfl, _, _, rfl, hm, ho, hHeld⟩
    · go_simp
      have hHeld := hHeld.alloc hHeld.size (.cells #[Value.int IntKind.u64 0, Value.int IntKind.u64 0, Value.int IntKind.u64 0, Value.int IntKind.u64 0, Value.int IntKind.u64 0, Value.int IntKind.u64 0, Value.int IntKind.u64 0, Value.int IntKind.u64 0, Value.int IntKind.u64 0, Value.int IntKind.u64 0, Value.int IntKind.u64 0, Value.int IntKind.u64 0, Value.int IntKind.u64 0, Value.int IntKind.u64 0, Value.int IntKind.u64 0, Value.int IntKind.u64 0, Value.int IntKind.u64 0, Value.int IntKind.u64 0, Value.int IntKind.u64 0, Value.int IntKind.u64 0, Value.int IntKind.u64 0, Value.int IntKind.u64 0, Value.int IntKind.u64 0, Value.int IntKind.u64 0, Value.int IntKind.u64 0, Value.int IntKind.u64 0, Value.int IntKind.u64 0, Value.int IntKind.u64 0, Value.int IntKind.u64 0, Value.int IntKind.u64 0, Value.int IntKind.u64 0, Value.int IntKind.u64 0] 32)
      have hm := heap_alloc_new (w1.drew) (.cells #[Value.int IntKind.u64 0, Value.int IntKind.u64 0, Value.int IntKind.u64 0, Value.int IntKind.u64 0, Value.int IntKind.u64 0, Value.int IntKind.u64 0, Value.int IntKind.u64 0, Value.int IntKind.u64 0, Value.int IntKind.u64 0, Value.int IntKind.u64 0, Value.int IntKind.u64 0, Value.int IntKind.u64 0, Value.int IntKind.u64 0, Value.int IntKind.u64 0, Value.int IntKind.u64 0, Value.int IntKind.u64 0, Value.int IntKind.u64 0, Value.int IntKind.u64 0, Value.int IntKind.u64 0, Value.int IntKind.u64 0, Value.int IntKind.u64 0, Value.int IntKind.u64 0, Value.int IntKind.u64 0, Value.int IntKind.u64 0, Value.int IntKind.u64 0, Value.int IntKind.u64 0, Value.int IntKind.u64 0, Value.int IntKind.u64 0, Value.int IntKind.u64 0, Value.int IntKind.u64 0, Value.int IntKind.u64 0, Value.int IntKind.u64 0] 32)
      refine hK.out _ _ hHeld (fun hHeld => ?_)
      clear hK K
      refine wpAnyH_ready (rs := [1, 4]) (by kernel_rfl) (by simp) ?_
      refine AllReadyH.cons rfl (fun K hK => ?_) (AllReadyH.cons rfl (fun K hK => ?_) AllReadyH.nil)
      · go_simp
        refine (theirs_any m _).mono ?_
        rintro e wc ⟨rfl, hb⟩
        try go_simp
        have hHeld := hHeld.trans (hb.mono hHeld.size)
        have hm := (hb.block (w1.heap.size) (by simp <;> omega)).trans hm
        have hsz := hb.size
        have hsz0 := hHeld.size
        refine hK.out _ _ hHeld (fun hHeld => ?_)
        clear hK K hb
        refine wpAnyH_ready (rs := [4]) (by kernel_rfl) (by simp) ?_
        refine AllReadyH.cons rfl (fun K hK => ?_) AllReadyH.nil
        go_simp
        have hHeld := hHeld.alloc hHeld.size (.cells #[Value.int IntKind.i64 0, Value.int IntKind.i64 0, Value.int IntKind.i64 0, Value.int IntKind.i64 0, Value.int IntKind.i64 0, Value.int IntKind.i64 0, Value.int IntKind.i64 0, Value.int IntKind.i64 0, Value.int IntKind.i64 0, Value.int IntKind.i64 0, Value.int IntKind.i64 0, Value.int IntKind.i64 0, Value.int IntKind.i64 0, Value.int IntKind.i64 0, Value.int IntKind.i64 0, Value.int IntKind.i64 0, Value.int IntKind.i64 0, Value.int IntKind.i64 0, Value.int IntKind.i64 0, Value.int IntKind.i64 0, Value.int IntKind.i64 0, Value.int IntKind.i64 0, Value.int IntKind.i64 0, Value.int IntKind.i64 0, Value.int IntKind.i64 0, Value.int IntKind.i64 0, Value.int IntKind.i64 0, Value.int IntKind.i64 0, Value.int IntKind.i64 0, Value.int IntKind.i64 0, Value.int IntKind.i64 0, Value.int IntKind.i64 0] 34)
        have hm := (Below.heap_alloc _ (.cells #[Value.int IntKind.i64 0, Value.int IntKind.i64 0, Value.int IntKind.i64 0, Value.int IntKind.i64 0, Value.int IntKind.i64 0, Value.int IntKind.i64 0, Value.int IntKind.i64 0, Value.int IntKind.i64 0, Value.int IntKind.i64 0, Value.int IntKind.i64 0, Value.int IntKind.i64 0, Value.int IntKind.i64 0, Value.int IntKind.i64 0, Value.int IntKind.i64 0, Value.int IntKind.i64 0, Value.int IntKind.i64 0, Value.int IntKind.i64 0, Value.int IntKind.i64 0, Value.int IntKind.i64 0, Value.int IntKind.i64 0, Value.int IntKind.i64 0, Value.int IntKind.i64 0, Value.int IntKind.i64 0, Value.int IntKind.i64 0, Value.int IntKind.i64 0, Value.int IntKind.i64 0, Value.int IntKind.i64 0, Value.int IntKind.i64 0, Value.int IntKind.i64 0, Value.int IntKind.i64 0, Value.int IntKind.i64 0, Value.int IntKind.i64 0] 34) _ (Array.getElem?_eq_some_iff.1 hm).1).trans hm
        have ho := heap_alloc_new (wc) (.cells #[Value.int IntKind.i64 0, Value.int IntKind.i64 0, Value.int IntKind.i64 0, Value.int IntKind.i64 0, Value.int IntKind.i64 0, Value.int IntKind.i64 0, Value.int IntKind.i64 0, Value.int IntKind.i64 0, Value.int IntKind.i64 0, Value.int IntKind.i64 0, Value.int IntKind.i64 0, Value.int IntKind.i64 0, Value.int IntKind.i64 0, Value.int IntKind.i64 0, Value.int IntKind.i64 0, Value.int IntKind.i64 0, Value.int IntKind.i64 0, Value.int IntKind.i64 0, Value.int IntKind.i64 0, Value.int IntKind.i64 0, Value.int IntKind.i64 0, Value.int IntKind.i64 0, Value.int IntKind.i64 0, Value.int IntKind.i64 0, Value.int IntKind.i64 0, Value.int IntKind.i64 0, Value.int IntKind.i64 0, Value.int IntKind.i64 0, Value.int IntKind.i64 0, Value.int IntKind.i64 0, Value.int IntKind.i64 0, Value.int IntKind.i64 0] 34)
        refine hK.out _ _ hHeld (fun hHeld => ?_)
        clear hK K
        have hmb : (w1).heap.size ≤ w1.heap.size := by first | omega | (simp at hsz; omega) | (simp at hsz hsz0; omega)
        have hob : (w1).heap.size ≤ wc.heap.size := by first | omega | (simp at hsz; omega) | (simp at hsz hsz0; omega)
        have hne : w1.heap.size ≠ wc.heap.size := by first | omega | (simp at hsz; omega) | (simp at hsz hsz0; omega)
        refine wpAnyH_ready (rs := [5]) (by kernel_rfl) (by simp) ?_
        refine AllReadyH.cons rfl (fun K hK => ?_) AllReadyH.nil
        refine step_store_row (by rfl) 32 (.tmp 7) (.tmp 18) (by rfl) (w1.heap.size) (matA m) (by rfl) (by rfl) 32 _ hm (matInfo _) (by rw [matA_size]; rfl) (matA_one _) ?_
        have hHeld := setRow_below (g := w1.heap.size) (cs := matA m) hHeld hmb
        have ho := (setRow_other _ (w1.heap.size) (wc.heap.size) (matA m) (by have := hne; omega)).trans ho
        have hm := setRow_heap _ _ _ (matA m) _ _ hm
        refine hK.out _ _ hHeld (fun hHeld => ?_)
        clear hK K
        refine wpAnyH_ready (rs := [6]) (by kernel_rfl) (by simp) ?_
        refine AllReadyH.cons rfl (fun K hK => ?_) AllReadyH.nil
        refine step_store_row (by rfl) 34 (.tmp 8) (.tmp 19) (by rfl) (wc.heap.size) (ordA o) (by rfl) (by rfl) 34 _ ho (ordInfo _) (by rw [ordA_size]; rfl) (ordA_one _) ?_
        have hHeld := setRow_below (g := wc.heap.size) (cs := ordA o) hHeld hob
        have hm := (setRow_other _ (wc.heap.size) (w1.heap.size) (ordA o) (by have := hne; omega)).trans hm
        have ho := setRow_heap _ _ _ (ordA o) _ _ ho
        refine hK.out _ _ hHeld (fun hHeld => ?_)
        clear hK K
        refine wpAnyH_done (by kernel_rfl) ?_ _
        refine NoPanic.normal ?_
        exact ⟨rfl, _, _, rfl, hm, ho, hHeld⟩
      · go_simp
        have hHeld := hHeld.alloc hHeld.size (.cells #[Value.int IntKind.i64 0, Value.int IntKind.i64 0, Value.int IntKind.i64 0, Value.int IntKind.i64 0, Value.int IntKind.i64 0, Value.int IntKind.i64 0, Value.int IntKind.i64 0, Value.int IntKind.i64 0, Value.int IntKind.i64 0, Value.int IntKind.i64 0, Value.int IntKind.i64 0, Value.int IntKind.i64 0, Value.int IntKind.i64 0, Value.int IntKind.i64 0, Value.int IntKind.i64 0, Value.int IntKind.i64 0, Value.int IntKind.i64 0, Value.int IntKind.i64 0, Value.int IntKind.i64 0, Value.int IntKind.i64 0, Value.int IntKind.i64 0, Value.int IntKind.i64 0, Value.int IntKind.i64 0, Value.int IntKind.i64 0, Value.int IntKind.i64 0, Value.int IntKind.i64 0, Value.int IntKind.i64 0, Value.int IntKind.i64 0, Value.int IntKind.i64 0, Value.int IntKind.i64 0, Value.int IntKind.i64 0, Value.int IntKind.i64 0] 34)
        have hm := (Below.heap_alloc _ (.cells #[Value.int IntKind.i64 0, Value.int IntKind.i64 0, Value.int IntKind.i64 0, Value.int IntKind.i64 0, Value.int IntKind.i64 0, Value.int IntKind.i64 0, Value.int IntKind.i64 0, Value.int IntKind.i64 0, Value.int IntKind.i64 0, Value.int IntKind.i64 0, Value.int IntKind.i64 0, Value.int IntKind.i64 0, Value.int IntKind.i64 0, Value.int IntKind.i64 0, Value.int IntKind.i64 0, Value.int IntKind.i64 0, Value.int IntKind.i64 0, Value.int IntKind.i64 0, Value.int IntKind.i64 0, Value.int IntKind.i64 0, Value.int IntKind.i64 0, Value.int IntKind.i64 0, Value.int IntKind.i64 0, Value.int IntKind.i64 0, Value.int IntKind.i64 0, Value.int IntKind.i64 0, Value.int IntKind.i64 0, Value.int IntKind.i64 0, Value.int IntKind.i64 0, Value.int IntKind.i64 0, Value.int IntKind.i64 0, Value.int IntKind.i64 0] 34) _ (Array.getElem?_eq_some_iff.1 hm).1).trans hm
        have ho := heap_alloc2_new (w1.drew) (.cells #[Value.int IntKind.u64 0, Value.int IntKind.u64 0, Value.int IntKind.u64 0, Value.int IntKind.u64 0, Value.int IntKind.u64 0, Value.int IntKind.u64 0, Value.int IntKind.u64 0, Value.int IntKind.u64 0, Value.int IntKind.u64 0, Value.int IntKind.u64 0, Value.int IntKind.u64 0, Value.int IntKind.u64 0, Value.int IntKind.u64 0, Value.int IntKind.u64 0, Value.int IntKind.u64 0, Value.int IntKind.u64 0, Value.int IntKind.u64 0, Value.int IntKind.u64 0, Value.int IntKind.u64 0, Value.int IntKind.u64 0, Value.int IntKind.u64 0, Value.int IntKind.u64 0, Value.int IntKind.u64 0, Value.int IntKind.u64 0, Value.int IntKind.u64 0, Value.int IntKind.u64 0, Value.int IntKind.u64 0, Value.int IntKind.u64 0, Value.int IntKind.u64 0, Value.int IntKind.u64 0, Value.int IntKind.u64 0, Value.int IntKind.u64 0] 32) (.cells #[Value.int IntKind.i64 0, Value.int IntKind.i64 0, Value.int IntKind.i64 0, Value.int IntKind.i64 0, Value.int IntKind.i64 0, Value.int IntKind.i64 0, Value.int IntKind.i64 0, Value.int IntKind.i64 0, Value.int IntKind.i64 0, Value.int IntKind.i64 0, Value.int IntKind.i64 0, Value.int IntKind.i64 0, Value.int IntKind.i64 0, Value.int IntKind.i64 0, Value.int IntKind.i64 0, Value.int IntKind.i64 0, Value.int IntKind.i64 0, Value.int IntKind.i64 0, Value.int IntKind.i64 0, Value.int IntKind.i64 0, Value.int IntKind.i64 0, Value.int IntKind.i64 0, Value.int IntKind.i64 0, Value.int IntKind.i64 0, Value.int IntKind.i64 0, Value.int IntKind.i64 0, Value.int IntKind.i64 0, Value.int IntKind.i64 0, Value.int IntKind.i64 0, Value.int IntKind.i64 0, Value.int IntKind.i64 0, Value.int IntKind.i64 0] 34)
        refine hK.out _ _ hHeld (fun hHeld => ?_)
        clear hK K
        refine wpAnyH_ready (rs := [1]) (by kernel_rfl) (by simp) ?_
        refine AllReadyH.cons rfl (fun K hK => ?_) AllReadyH.nil
        go_simp
        refine (theirs_any m _).mono ?_
        rintro e wc ⟨rfl, hb⟩
        try go_simp
        have hHeld := hHeld.trans (hb.mono hHeld.size)
        have hm := (hb.block (w1.heap.size) (by simp <;> omega)).trans hm
        have ho := (hb.block (w1.heap.size + 1) (by simp <;> omega)).trans ho
        have hsz := hb.size
        have hsz0 := hHeld.size
        refine hK.out _ _ hHeld (fun hHeld => ?_)
        clear hK K hb
        have hmb : (w1).heap.size ≤ w1.heap.size := by first | omega | (simp at hsz; omega) | (simp at hsz hsz0; omega)
        have hob : (w1).heap.size ≤ w1.heap.size + 1 := by first | omega | (simp at hsz; omega) | (simp at hsz hsz0; omega)
        have hne : w1.heap.size ≠ w1.heap.size + 1 := by first | omega | (simp at hsz; omega) | (simp at hsz hsz0; omega)
        refine wpAnyH_ready (rs := [5]) (by kernel_rfl) (by simp) ?_
        refine AllReadyH.cons rfl (fun K hK => ?_) AllReadyH.nil
        refine step_store_row (by rfl) 32 (.tmp 7) (.tmp 18) (by rfl) (w1.heap.size) (matA m) (by rfl) (by rfl) 32 _ hm (matInfo _) (by rw [matA_size]; rfl) (matA_one _) ?_
        have hHeld := setRow_below (g := w1.heap.size) (cs := matA m) hHeld hmb
        have ho := (setRow_other _ (w1.heap.size) (w1.heap.size + 1) (matA m) (by have := hne; omega)).trans ho
        have hm := setRow_heap _ _ _ (matA m) _ _ hm
        refine hK.out _ _ hHeld (fun hHeld => ?_)
        clear hK K
        refine wpAnyH_ready (rs := [6]) (by kernel_rfl) (by simp) ?_
        refine AllReadyH.cons rfl (fun K hK => ?_) AllReadyH.nil
        refine step_store_row (by rfl) 34 (.tmp 8) (.tmp 19) (by rfl) (w1.heap.size + 1) (ordA o) (by rfl) (by rfl) 34 _ ho (ordInfo _) (by rw [ordA_size]; rfl) (ordA_one _) ?_
        have hHeld := setRow_below (g := w1.heap.size + 1) (cs := ordA o) hHeld hob
        have hm := (setRow_other _ (w1.heap.size + 1) (w1.heap.size) (ordA o) (by have := hne; omega)).trans hm
        have ho := setRow_heap _ _ _ (ordA o) _ _ ho
        refine hK.out _ _ hHeld (fun hHeld => ?_)
        clear hK K
        refine wpAnyH_done (by kernel_rfl) ?_ _
        refine NoPanic.normal ?_
        exact ⟨rfl, _, _, rfl, hm, ho, hHeld⟩
    · go_simp
      have hHeld := hHeld.alloc hHeld.size (.cells #[Value.int IntKind.i64 0, Value.int IntKind.i64 0, Value.int IntKind.i64 0, Value.int IntKind.i64 0, Value.int IntKind.i64 0, Value.int IntKind.i64 0, Value.int IntKind.i64 0, Value.int IntKind.i64 0, Value.int IntKind.i64 0, Value.int IntKind.i64 0, Value.int IntKind.i64 0, Value.int IntKind.i64 0, Value.int IntKind.i64 0, Value.int IntKind.i64 0, Value.int IntKind.i64 0, Value.int IntKind.i64 0, Value.int IntKind.i64 0, Value.int IntKind.i64 0, Value.int IntKind.i64 0, Value.int IntKind.i64 0, Value.int IntKind.i64 0, Value.int IntKind.i64 0, Value.int IntKind.i64 0, Value.int IntKind.i64 0, Value.int IntKind.i64 0, Value.int IntKind.i64 0, Value.int IntKind.i64 0, Value.int IntKind.i64 0, Value.int IntKind.i64 0, Value.int IntKind.i64 0, Value.int IntKind.i64 0, Value.int IntKind.i64 0] 34)
      have ho := heap_alloc_new (w1.drew) (.cells #[Value.int IntKind.i64 0, Value.int IntKind.i64 0, Value.int IntKind.i64 0, Value.int IntKind.i64 0, Value.int IntKind.i64 0, Value.int IntKind.i64 0, Value.int IntKind.i64 0, Value.int IntKind.i64 0, Value.int IntKind.i64 0, Value.int IntKind.i64 0, Value.int IntKind.i64 0, Value.int IntKind.i64 0, Value.int IntKind.i64 0, Value.int IntKind.i64 0, Value.int IntKind.i64 0, Value.int IntKind.i64 0, Value.int IntKind.i64 0, Value.int IntKind.i64 0, Value.int IntKind.i64 0, Value.int IntKind.i64 0, Value.int IntKind.i64 0, Value.int IntKind.i64 0, Value.int IntKind.i64 0, Value.int IntKind.i64 0, Value.int IntKind.i64 0, Value.int IntKind.i64 0, Value.int IntKind.i64 0, Value.int IntKind.i64 0, Value.int IntKind.i64 0, Value.int IntKind.i64 0, Value.int IntKind.i64 0, Value.int IntKind.i64 0] 34)
      refine hK.out _ _ hHeld (fun hHeld => ?_)
      clear hK K
      refine wpAnyH_ready (rs := [1, 3]) (by kernel_rfl) (by simp) ?_
      refine AllReadyH.cons rfl (fun K hK => ?_) (AllReadyH.cons rfl (fun K hK => ?_) AllReadyH.nil)
      · go_simp
        refine (theirs_any m _).mono ?_
        rintro e wc ⟨rfl, hb⟩
        try go_simp
        have hHeld := hHeld.trans (hb.mono hHeld.size)
        have ho := (hb.block (w1.heap.size) (by simp <;> omega)).trans ho
        have hsz := hb.size
        have hsz0 := hHeld.size
        refine hK.out _ _ hHeld (fun hHeld => ?_)
        clear hK K hb
        refine wpAnyH_ready (rs := [3]) (by kernel_rfl) (by simp) ?_
        refine AllReadyH.cons rfl (fun K hK => ?_) AllReadyH.nil
        go_simp
        have hHeld := hHeld.alloc hHeld.size (.cells #[Value.int IntKind.u64 0, Value.int IntKind.u64 0, Value.int IntKind.u64 0, Value.int IntKind.u64 0, Value.int IntKind.u64 0, Value.int IntKind.u64 0, Value.int IntKind.u64 0, Value.int IntKind.u64 0, Value.int IntKind.u64 0, Value.int IntKind.u64 0, Value.int IntKind.u64 0, Value.int IntKind.u64 0, Value.int IntKind.u64 0, Value.int IntKind.u64 0, Value.int IntKind.u64 0, Value.int IntKind.u64 0, Value.int IntKind.u64 0, Value.int IntKind.u64 0, Value.int IntKind.u64 0, Value.int IntKind.u64 0, Value.int IntKind.u64 0, Value.int IntKind.u64 0, Value.int IntKind.u64 0, Value.int IntKind.u64 0, Value.int IntKind.u64 0, Value.int IntKind.u64 0, Value.int IntKind.u64 0, Value.int IntKind.u64 0, Value.int IntKind.u64 0, Value.int IntKind.u64 0, Value.int IntKind.u64 0, Value.int IntKind.u64 0] 32)
        have ho := (Below.heap_alloc _ (.cells #[Value.int IntKind.u64 0, Value.int IntKind.u64 0, Value.int IntKind.u64 0, Value.int IntKind.u64 0, Value.int IntKind.u64 0, Value.int IntKind.u64 0, Value.int IntKind.u64 0, Value.int IntKind.u64 0, Value.int IntKind.u64 0, Value.int IntKind.u64 0, Value.int IntKind.u64 0, Value.int IntKind.u64 0, Value.int IntKind.u64 0, Value.int IntKind.u64 0, Value.int IntKind.u64 0, Value.int IntKind.u64 0, Value.int IntKind.u64 0, Value.int IntKind.u64 0, Value.int IntKind.u64 0, Value.int IntKind.u64 0, Value.int IntKind.u64 0, Value.int IntKind.u64 0, Value.int IntKind.u64 0, Value.int IntKind.u64 0, Value.int IntKind.u64 0, Value.int IntKind.u64 0, Value.int IntKind.u64 0, Value.int IntKind.u64 0, Value.int IntKind.u64 0, Value.int IntKind.u64 0, Value.int IntKind.u64 0, Value.int IntKind.u64 0] 32) _ (Array.getElem?_eq_some_iff.1 ho).1).trans ho
        have hm := heap_alloc_new (wc) (.cells #[Value.int IntKind.u64 0, Value.int IntKind.u64 0, Value.int IntKind.u64 0, Value.int IntKind.u64 0, Value.int IntKind.u64 0, Value.int IntKind.u64 0, Value.int IntKind.u64 0, Value.int IntKind.u64 0, Value.int IntKind.u64 0, Value.int IntKind.u64 0, Value.int IntKind.u64 0, Value.int IntKind.u64 0, Value.int IntKind.u64 0, Value.int IntKind.u64 0, Value.int IntKind.u64 0, Value.int IntKind.u64 0, Value.int IntKind.u64 0, Value.int IntKind.u64 0, Value.int IntKind.u64 0, Value.int IntKind.u64 0, Value.int IntKind.u64 0, Value.int IntKind.u64 0, Value.int IntKind.u64 0, Value.int IntKind.u64 0, Value.int IntKind.u64 0, Value.int IntKind.u64 0, Value.int IntKind.u64 0, Value.int IntKind.u64 0, Value.int IntKind.u64 0, Value.int IntKind.u64 0, Value.int IntKind.u64 0, Value.int IntKind.u64 0] 32)
        refine hK.out _ _ hHeld (fun hHeld => ?_)
        clear hK K
        have hmb : (w1).heap.size ≤ wc.heap.size := by first | omega | (simp at hsz; omega) | (simp at hsz hsz0; omega)
        have hob : (w1).heap.size ≤ w1.heap.size := by first | omega | (simp at hsz; omega) | (simp at hsz hsz0; omega)
        have hne : wc.heap.size ≠ w1.heap.size := by first | omega | (simp at hsz; omega) | (simp at hsz hsz0; omega)
        refine wpAnyH_ready (rs := [5]) (by kernel_rfl) (by simp) ?_
        refine AllReadyH.cons rfl (fun K hK => ?_) AllReadyH.nil
        refine step_store_row (by rfl) 32 (.tmp 7) (.tmp 18) (by rfl) (wc.heap.size) (matA m) (by rfl) (by rfl) 32 _ hm (matInfo _) (by rw [matA_size]; rfl) (matA_one _) ?_
        have hHeld := setRow_below (g := wc.heap.size) (cs := matA m) hHeld hmb
        have ho := (setRow_other _ (wc.heap.size) (w1.heap.size) (matA m) (by have := hne; omega)).trans ho
        have hm := setRow_heap _ _ _ (matA m) _ _ hm
        refine hK.out _ _ hHeld (fun hHeld => ?_)
        clear hK K
        refine wpAnyH_ready (rs := [6]) (by kernel_rfl) (by simp) ?_
        refine AllReadyH.cons rfl (fun K hK => ?_) AllReadyH.nil
        refine step_store_row (by rfl) 34 (.tmp 8) (.tmp 19) (by rfl) (w1.heap.size) (ordA o) (by rfl) (by rfl) 34 _ ho (ordInfo _) (by rw [ordA_size]; rfl) (ordA_one _) ?_
        have hHeld := setRow_below (g := w1.heap.size) (cs := ordA o) hHeld hob
        have hm := (setRow_other _ (w1.heap.size) (wc.heap.size) (ordA o) (by have := hne; omega)).trans hm
        have ho := setRow_heap _ _ _ (ordA o) _ _ ho
        refine hK.out _ _ hHeld (fun hHeld => ?_)
        clear hK K
        refine wpAnyH_done (by kernel_rfl) ?_ _
        refine NoPanic.normal ?_
        exact ⟨rfl, _, _, rfl, hm, ho, hHeld⟩
      · go_simp
        have hHeld := hHeld.alloc hHeld.size (.cells #[Value.int IntKind.u64 0, Value.int IntKind.u64 0, Value.int IntKind.u64 0, Value.int IntKind.u64 0, Value.int IntKind.u64 0, Value.int IntKind.u64 0, Value.int IntKind.u64 0, Value.int IntKind.u64 0, Value.int IntKind.u64 0, Value.int IntKind.u64 0, Value.int IntKind.u64 0, Value.int IntKind.u64 0, Value.int IntKind.u64 0, Value.int IntKind.u64 0, Value.int IntKind.u64 0, Value.int IntKind.u64 0, Value.int IntKind.u64 0, Value.int IntKind.u64 0, Value.int IntKind.u64 0, Value.int IntKind.u64 0, Value.int IntKind.u64 0, Value.int IntKind.u64 0, Value.int IntKind.u64 0, Value.int IntKind.u64 0, Value.int IntKind.u64 0, Value.int IntKind.u64 0, Value.int IntKind.u64 0, Value.int IntKind.u64 0, Value.int IntKind.u64 0, Value.int IntKind.u64 0, Value.int IntKind.u64 0, Value.int IntKind.u64 0] 32)
        have ho := (Below.heap_alloc _ (.cells #[Value.int IntKind.u64 0, Value.int IntKind.u64 0, Value.int IntKind.u64 0, Value.int IntKind.u64 0, Value.int IntKind.u64 0, Value.int IntKind.u64 0, Value.int IntKind.u64 0, Value.int IntKind.u64 0, Value.int IntKind.u64 0, Value.int IntKind.u64 0, Value.int IntKind.u64 0, Value.int IntKind.u64 0, Value.int IntKind.u64 0, Value.int IntKind.u64 0, Value.int IntKind.u64 0, Value.int IntKind.u64 0, Value.int IntKind.u64 0, Value.int IntKind.u64 0, Value.int IntKind.u64 0, Value.int IntKind.u64 0, Value.int IntKind.u64 0, Value.int IntKind.u64 0, Value.int IntKind.u64 0, Value.int IntKind.u64 0, Value.int IntKind.u64 0, Value.int IntKind.u64 0, Value.int IntKind.u64 0, Value.int IntKind.u64 0, Value.int IntKind.u64 0, Value.int IntKind.u64 0, Value.int IntKind.u64 0, Value.int IntKind.u64 0] 32) _ (Array.getElem?_eq_some_iff.1 ho).1).trans ho
        have hm := heap_alloc2_new (w1.drew) (.cells #[Value.int IntKind.i64 0, Value.int IntKind.i64 0, Value.int IntKind.i64 0, Value.int IntKind.i64 0, Value.int IntKind.i64 0, Value.int IntKind.i64 0, Value.int IntKind.i64 0, Value.int IntKind.i64 0, Value.int IntKind.i64 0, Value.int IntKind.i64 0, Value.int IntKind.i64 0, Value.int IntKind.i64 0, Value.int IntKind.i64 0, Value.int IntKind.i64 0, Value.int IntKind.i64 0, Value.int IntKind.i64 0, Value.int IntKind.i64 0, Value.int IntKind.i64 0, Value.int IntKind.i64 0, Value.int IntKind.i64 0, Value.int IntKind.i64 0, Value.int IntKind.i64 0, Value.int IntKind.i64 0, Value.int IntKind.i64 0, Value.int IntKind.i64 0, Value.int IntKind.i64 0, Value.int IntKind.i64 0, Value.int IntKind.i64 0, Value.int IntKind.i64 0, Value.int IntKind.i64 0, Value.int IntKind.i64 0, Value.int IntKind.i64 0] 34) (.cells #[Value.int IntKind.u64 0, Value.int IntKind.u64 0, Value.int IntKind.u64 0, Value.int IntKind.u64 0, Value.int IntKind.u64 0, Value.int IntKind.u64 0, Value.int IntKind.u64 0, Value.int IntKind.u64 0, Value.int IntKind.u64 0, Value.int IntKind.u64 0, Value.int IntKind.u64 0, Value.int IntKind.u64 0, Value.int IntKind.u64 0, Value.int IntKind.u64 0, Value.int IntKind.u64 0, Value.int IntKind.u64 0, Value.int IntKind.u64 0, Value.int IntKind.u64 0, Value.int IntKind.u64 0, Value.int IntKind.u64 0, Value.int IntKind.u64 0, Value.int IntKind.u64 0, Value.int IntKind.u64 0, Value.int IntKind.u64 0, Value.int IntKind.u64 0, Value.int IntKind.u64 0, Value.int IntKind.u64 0, Value.int IntKind.u64 0, Value.int IntKind.u64 0, Value.int IntKind.u64 0, Value.int IntKind.u64 0, Value.int IntKind.u64 0] 32)
        refine hK.out _ _ hHeld (fun hHeld => ?_)
        clear hK K
        refine wpAnyH_ready (rs := [1]) (by kernel_rfl) (by simp) ?_
        refine AllReadyH.cons rfl (fun K hK => ?_) AllReadyH.nil
        go_simp
        refine (theirs_any m _).mono ?_
        rintro e wc ⟨rfl, hb⟩
        try go_simp
        have hHeld := hHeld.trans (hb.mono hHeld.size)
        have hm := (hb.block (w1.heap.size + 1) (by simp <;> omega)).trans hm
        have ho := (hb.block (w1.heap.size) (by simp <;> omega)).trans ho
        have hsz := hb.size
        have hsz0 := hHeld.size
        refine hK.out _ _ hHeld (fun hHeld => ?_)
        clear hK K hb
        have hmb : (w1).heap.size ≤ w1.heap.size + 1 := by first | omega | (simp at hsz; omega) | (simp at hsz hsz0; omega)
        have hob : (w1).heap.size ≤ w1.heap.size := by first | omega | (simp at hsz; omega) | (simp at hsz hsz0; omega)
        have hne : w1.heap.size + 1 ≠ w1.heap.size := by first | omega | (simp at hsz; omega) | (simp at hsz hsz0; omega)
        refine wpAnyH_ready (rs := [5]) (by kernel_rfl) (by simp) ?_
        refine AllReadyH.cons rfl (fun K hK => ?_) AllReadyH.nil
        refine step_store_row (by rfl) 32 (.tmp 7) (.tmp 18) (by rfl) (w1.heap.size + 1) (matA m) (by rfl) (by rfl) 32 _ hm (matInfo _) (by rw [matA_size]; rfl) (matA_one _) ?_
        have hHeld := setRow_below (g := w1.heap.size + 1) (cs := matA m) hHeld hmb
        have ho := (setRow_other _ (w1.heap.size + 1) (w1.heap.size) (matA m) (by have := hne; omega)).trans ho
        have hm := setRow_heap _ _ _ (matA m) _ _ hm
        refine hK.out _ _ hHeld (fun hHeld => ?_)
        clear hK K
        refine wpAnyH_ready (rs := [6]) (by kernel_rfl) (by simp) ?_
        refine AllReadyH.cons rfl (fun K hK => ?_) AllReadyH.nil
        refine step_store_row (by rfl) 34 (.tmp 8) (.tmp 19) (by rfl) (w1.heap.size) (ordA o) (by rfl) (by rfl) 34 _ ho (ordInfo _) (by rw [ordA_size]; rfl) (ordA_one _) ?_
        have hHeld := setRow_below (g := w1.heap.size) (cs := ordA o) hHeld hob
        have hm := (setRow_other _ (w1.heap.size) (w1.heap.size + 1) (ordA o) (by have := hne; omega)).trans hm
        have ho := setRow_heap _ _ _ (ordA o) _ _ ho
        refine hK.out _ _ hHeld (fun hHeld => ?_)
        clear hK K
        refine wpAnyH_done (by kernel_rfl) ?_ _
        refine NoPanic.normal ?_
        exact ⟨rfl, _, _, rfl, hm, ho, hHeld⟩
  · rintro e a' w' ⟨rfl, gm, go, rfl, hgm, hgo, hb⟩
    have HQ := Lib.hid (TSt2.mk (HS1.out.below hb) hgm hgo)
    clear hgm hgo hb HS1
    have hk0 := HQ.out.es.c0
    have hk1 := HQ.out.es.c1
    go_wp2_with (first
      | (refine wpList_load_row rfl 32 (.tmp 7) rfl gm rfl 32 (matA m) (0, 0) _ HQ.out.tm Tryd.underlying32 rfl (matInfo _) ?_)
      | (refine wpList_load_row rfl 34 (.tmp 8) rfl go rfl 34 (ordA o) (0, 0) _ HQ.out.to Tryd.underlying34 rfl (ordInfo _) ?_))
    refine (insert_any m o ea eb _ hm HOk.out hea heb HQ.out.es.tab).mono ?_
    rintro e w2 ⟨rfl, hb2⟩
    have HQ2 := Lib.hid (HQ.out.below hb2)
    clear hb2 HQ hk0 hk1
    have HIn := Lib.hid (fun W hT => rinsert_any m o ea eb W hm hea heb hT)
    generalize Od.insert m o ea eb = r at *
    obtain ⟨X, Q, is⟩ := r
    have hk0 := HQ2.out.es.c0
    have hk1 := HQ2.out.es.c1
    go_wp2_with (first
      | (refine wpList_let2 rfl rfl 32 34 (.tmp 9) (.tmp 28) (.tmp 10) (.tmp 29) rfl rfl rfl rfl w2 X Q rfl rfl rfl rfl rfl rfl rfl mat_info ord_info ?_; intro wx hM hO hB; have HX := Lib.hid (TSt3.mk (HQ2.out.below hB) hM hO); have hk0 := HX.out.t.es.c0; have hk1 := HX.out.t.es.c1; clear hM hO hB)
      | (refine wpList_load_row rfl 24 (.tmp 3) rfl w.heap.size rfl 24 (matA m) (0, 0) _ HX.out.t.es.gr Tryd.underlying24 rfl (rmatInfo _) ?_)
      | (refine wpList_load_row rfl 26 (.tmp 4) rfl (w.heap.size + 1) rfl 26 (ordA o) (0, 0) _ HX.out.t.es.od Tryd.underlying26 rfl (rordInfo _) ?_))
    refine (HIn.out _ HX.out.t.es.tab).mono ?_
    rintro e w3 ⟨rfl, hb3⟩
    have HX3 := Lib.hid (HX.out.below hb3)
    clear hb3 HX HQ2
    go_wp2_with (refine wpList_let2 rfl rfl 24 26 (.tmp 12) (.tmp 39) (.tmp 13) (.tmp 40) rfl rfl rfl rfl w3 X Q rfl rfl rfl rfl rfl rfl rfl rmat_info rord_info ?_; intro wy hM hO hB; have HY := Lib.hid (TSt4.mk (HX3.out.below hB) hM hO); clear hM hO hB)
    have hE1 := eq_rmat X X true (sameM_self X)
    have hE2 := eq_rord Q Q true (sameO_self Q)
    have hE3 := eq_rord Od.newO Od.newO true (sameO_self Od.newO)
    refine wp_region_noPanic ?_
    refine region_start (S := TSt4 w m o ea eb gm go w2.heap.size (w2.heap.size + 1) w3.heap.size (w3.heap.size + 1) X Q) 43 rfl (by kernel_rfl) (HY.out.below (below_drew _)) (fun hHeld => ?_)
    refine take_at 0 42 (.agg (matA X)) rfl rfl (by kernel_rfl) (by kernel_rfl) (by kernel_rfl) (fun _ _ _ h => h) (yields_row (by rfl) 32 (.tmp 9) rfl (w2.heap.size) rfl 32 (matA X) (fun W h => h.t.x) Tryd.underlying32 (matInfo _)) hHeld ?_
    simp only [put_laws]
    refine take_at 2 44 (.agg (matA X)) rfl rfl (by kernel_rfl) (by kernel_rfl) (by kernel_rfl) (fun _ _ _ h => h) (yields_row (by rfl) 24 (.tmp 12) rfl (w3.heap.size) rfl 24 (matA X) (fun W h => h.y) Tryd.underlying24 (rmatInfo _)) hHeld ?_
    simp only [put_laws]
    refine wpAnyH_ready (rs := [1]) (by kernel_rfl) (by simp) ?_
    refine AllReadyH.cons rfl (fun K hK => ?_) AllReadyH.nil
    go_simp
    refine (ours_any X _).mono ?_
    rintro e v1 ⟨rfl, hb43⟩
    try go_simp
    have hHeld := hHeld.below hb43
    refine hK.out _ _ hHeld (fun hHeld => ?_)
    clear hK K
    refine take_at 3 45 (.bool true) rfl rfl (by kernel_rfl) (by kernel_rfl) (by kernel_rfl) (fun _ _ _ h => h) (Or.inl ⟨by rfl, by intro W hW; clear hW; go_simp⟩) hHeld ?_
    simp only [put_laws]
    refine take_at 4 46 (.bool true) rfl rfl (by kernel_rfl) (by kernel_rfl) (by kernel_rfl) (fun _ _ _ h => h) (Or.inl ⟨by rfl, by intro W hW; clear hW; go_simp⟩) hHeld ?_
    simp only [put_laws]
    refine take_at 5 47 (.agg (ordA Q)) rfl rfl (by kernel_rfl) (by kernel_rfl) (by kernel_rfl) (fun _ _ _ h => h) (yields_row (by rfl) 34 (.tmp 10) rfl (w2.heap.size + 1) rfl 34 (ordA Q) (fun W h => h.t.q) Tryd.underlying34 (ordInfo _)) hHeld ?_
    simp only [put_laws]
    refine take_at 6 48 (.agg (ordA Q)) rfl rfl (by kernel_rfl) (by kernel_rfl) (by kernel_rfl) (fun _ _ _ h => h) (yields_row (by rfl) 26 (.tmp 13) rfl (w3.heap.size + 1) rfl 26 (ordA Q) (fun W h => h.z) Tryd.underlying26 (rordInfo _)) hHeld ?_
    simp only [put_laws]
    refine take_at 7 49 (.bool true) rfl rfl (by kernel_rfl) (by kernel_rfl) (by kernel_rfl) (fun _ _ _ h => h) (Or.inl ⟨by rfl, by intro W hW; clear hW; go_simp⟩) hHeld ?_
    simp only [put_laws]
    refine take_at 8 50 (.bool true) rfl rfl (by kernel_rfl) (by kernel_rfl) (by kernel_rfl) (fun _ _ _ h => h) (Or.inl ⟨by rfl, by intro W hW; clear hW; go_simp⟩) hHeld ?_
    simp only [put_laws]
    refine take_at 9 51 (.bool true) rfl rfl (by kernel_rfl) (by kernel_rfl) (by kernel_rfl) (fun _ _ _ h => h) (Or.inl ⟨by rfl, by intro W hW; clear hW; go_simp⟩) hHeld ?_
    simp only [put_laws]
    refine take_at 10 52 (.bool is) rfl rfl (by kernel_rfl) (by kernel_rfl) (by kernel_rfl) (fun _ _ _ h => h) (Or.inl ⟨by rfl, by intro W hW; clear hW; go_simp⟩) hHeld ?_
    simp only [put_laws]
    refine take_at 11 53 (.bool is) rfl rfl (by kernel_rfl) (by kernel_rfl) (by kernel_rfl) (fun _ _ _ h => h) (Or.inl ⟨by rfl, by intro W hW; clear hW; go_simp⟩) hHeld ?_
    simp only [put_laws]
    refine take_at 12 54 (.bool true) rfl rfl (by kernel_rfl) (by kernel_rfl) (by kernel_rfl) (fun _ _ _ h => h) (Or.inl ⟨by rfl, by intro W hW; clear hW; go_simp⟩) hHeld ?_
    simp only [put_laws]
    refine take_at 13 55 (.bool true) rfl rfl (by kernel_rfl) (by kernel_rfl) (by kernel_rfl) (fun _ _ _ h => h) (Or.inl ⟨by rfl, by intro W hW; clear hW; go_simp⟩) hHeld ?_
    simp only [put_laws]
    refine take_at 14 56 (.bool true) rfl rfl (by kernel_rfl) (by kernel_rfl) (by kernel_rfl) (fun _ _ _ h => h) (Or.inl ⟨by rfl, by intro W hW; clear hW; go_simp⟩) hHeld ?_
    simp only [put_laws]
    refine take_at 15 57 (.agg (ordA o)) rfl rfl (by kernel_rfl) (by kernel_rfl) (by kernel_rfl) (fun _ _ _ h => h) (yields_row (by rfl) 34 (.tmp 8) rfl (go) rfl 34 (ordA o) (fun W h => h.t.t.to) Tryd.underlying34 (ordInfo _)) hHeld ?_
    simp only [put_laws]
    refine take_at 17 59 (.agg (ordA o)) rfl rfl (by kernel_rfl) (by kernel_rfl) (by kernel_rfl) (fun _ _ _ h => h) (yields_row (by rfl) 26 (.tmp 4) rfl (w.heap.size + 1) rfl 26 (ordA o) (fun W h => h.t.t.es.od) Tryd.underlying26 (rordInfo _)) hHeld ?_
    simp only [put_laws]
    refine wpAnyH_ready (rs := [16]) (by kernel_rfl) (by simp) ?_
    refine AllReadyH.cons rfl (fun K hK => ?_) AllReadyH.nil
    go_simp
    refine (right_any o _ HOk.out).mono ?_
    rintro e v2 ⟨rfl, hb58⟩
    try go_simp
    have hHeld := hHeld.below hb58
    refine hK.out _ _ hHeld (fun hHeld => ?_)
    clear hK K
    refine wpAnyH_ready (rs := [18]) (by kernel_rfl) (by simp) ?_
    refine AllReadyH.cons rfl (fun K hK => ?_) AllReadyH.nil
    go_simp
    refine (rright_any o _).mono ?_
    rintro e v3 ⟨rfl, hb60⟩
    try go_simp
    have hHeld := hHeld.below hb60
    refine hK.out _ _ hHeld (fun hHeld => ?_)
    clear hK K
    refine take_at 19 61 (.bool true) rfl rfl (by kernel_rfl) (by kernel_rfl) (by kernel_rfl) (fun _ _ _ h => h) (Or.inl ⟨by rfl, by intro W hW; clear hW; go_simp⟩) hHeld ?_
    simp only [put_laws]
    refine take_at 20 62 (.bool true) rfl rfl (by kernel_rfl) (by kernel_rfl) (by kernel_rfl) (fun _ _ _ h => h) (Or.inl ⟨by rfl, by intro W hW; clear hW; go_simp⟩) hHeld ?_
    simp only [put_laws]
    refine take_at 21 63 (.bool true) rfl rfl (by kernel_rfl) (by kernel_rfl) (by kernel_rfl) (fun _ _ _ h => h) (Or.inl ⟨by rfl, by intro W hW; clear hW; go_simp⟩) hHeld ?_
    simp only [put_laws]
    refine take_at 22 64 (.agg (matA m)) rfl rfl (by kernel_rfl) (by kernel_rfl) (by kernel_rfl) (fun _ _ _ h => h) (yields_row (by rfl) 32 (.tmp 7) rfl (gm) rfl 32 (matA m) (fun W h => h.t.t.tm) Tryd.underlying32 (matInfo _)) hHeld ?_
    simp only [put_laws]
    refine take_at 23 65 (.agg (ordA o)) rfl rfl (by kernel_rfl) (by kernel_rfl) (by kernel_rfl) (fun _ _ _ h => h) (yields_row (by rfl) 34 (.tmp 8) rfl (go) rfl 34 (ordA o) (fun W h => h.t.t.to) Tryd.underlying34 (ordInfo _)) hHeld ?_
    simp only [put_laws]
    refine take_at 25 67 (.agg (matA m)) rfl rfl (by kernel_rfl) (by kernel_rfl) (by kernel_rfl) (fun _ _ _ h => h) (yields_row (by rfl) 24 (.tmp 3) rfl (w.heap.size) rfl 24 (matA m) (fun W h => h.t.t.es.gr) Tryd.underlying24 (rmatInfo _)) hHeld ?_
    simp only [put_laws]
    refine take_at 26 68 (.agg (ordA o)) rfl rfl (by kernel_rfl) (by kernel_rfl) (by kernel_rfl) (fun _ _ _ h => h) (yields_row (by rfl) 26 (.tmp 4) rfl (w.heap.size + 1) rfl 26 (ordA o) (fun W h => h.t.t.es.od) Tryd.underlying26 (rordInfo _)) hHeld ?_
    simp only [put_laws]
    refine wpAnyH_ready (rs := [24]) (by kernel_rfl) (by simp) ?_
    refine AllReadyH.cons rfl (fun K hK => ?_) AllReadyH.nil
    go_simp
    refine (sorted_any m o _ hm HOk.out hHeld.t.t.es.tab).mono ?_
    rintro e v4 ⟨rfl, hb66⟩
    try go_simp
    have hHeld := hHeld.below hb66
    refine hK.out _ _ hHeld (fun hHeld => ?_)
    clear hK K
    refine wpAnyH_ready (rs := [27]) (by kernel_rfl) (by simp) ?_
    refine AllReadyH.cons rfl (fun K hK => ?_) AllReadyH.nil
    go_simp
    refine (rsorted_any m o _ hm).mono ?_
    rintro e v5 ⟨rfl, hb69⟩
    try go_simp
    have hHeld := hHeld.below hb69
    refine hK.out _ _ hHeld (fun hHeld => ?_)
    clear hK K
    refine take_at 28 70 (.bool true) rfl rfl (by kernel_rfl) (by kernel_rfl) (by kernel_rfl) (fun _ _ _ h => h) (Or.inl ⟨by rfl, by intro W hW; clear hW; go_simp⟩) hHeld ?_
    simp only [put_laws]
    refine take_at 29 71 (.bool true) rfl rfl (by kernel_rfl) (by kernel_rfl) (by kernel_rfl) (fun _ _ _ h => h) (Or.inl ⟨by rfl, by intro W hW; clear hW; go_simp⟩) hHeld ?_
    simp only [put_laws]
    refine take_at 30 72 (.bool true) rfl rfl (by kernel_rfl) (by kernel_rfl) (by kernel_rfl) (fun _ _ _ h => h) (Or.inl ⟨by rfl, by intro W hW; clear hW; go_simp⟩) hHeld ?_
    simp only [put_laws]
    refine take_at 31 73 (.agg (ordA o)) rfl rfl (by kernel_rfl) (by kernel_rfl) (by kernel_rfl) (fun _ _ _ h => h) (yields_row (by rfl) 34 (.tmp 8) rfl (go) rfl 34 (ordA o) (fun W h => h.t.t.to) Tryd.underlying34 (ordInfo _)) hHeld ?_
    simp only [put_laws]
    refine take_at 33 75 (.agg (ordA o)) rfl rfl (by kernel_rfl) (by kernel_rfl) (by kernel_rfl) (fun _ _ _ h => h) (yields_row (by rfl) 26 (.tmp 4) rfl (w.heap.size + 1) rfl 26 (ordA o) (fun W h => h.t.t.es.od) Tryd.underlying26 (rordInfo _)) hHeld ?_
    simp only [put_laws]
    refine wpAnyH_ready (rs := [32]) (by kernel_rfl) (by simp) ?_
    refine AllReadyH.cons rfl (fun K hK => ?_) AllReadyH.nil
    go_simp
    refine (row_no o _ HOk.out HNR.out).mono ?_
    rintro e v6 ⟨rfl, hb74⟩
    try go_simp
    have hHeld := hHeld.below hb74
    refine hK.out _ _ hHeld (fun hHeld => ?_)
    clear hK K
    refine wpAnyH_ready (rs := [34]) (by kernel_rfl) (by simp) ?_
    refine AllReadyH.cons rfl (fun K hK => ?_) AllReadyH.nil
    go_simp
    refine (rrow_no o _ HNR.out).mono ?_
    rintro e v7 ⟨rfl, hb76⟩
    try go_simp
    have hHeld := hHeld.below hb76
    refine hK.out _ _ hHeld (fun hHeld => ?_)
    clear hK K
    refine wpAnyH_ready (rs := [35]) (by kernel_rfl) (by simp) ?_
    refine AllReadyH.cons rfl (fun K hK => ?_) AllReadyH.nil
    go_simp
    refine (same_none _).mono ?_
    rintro e v8 ⟨rfl, hb77⟩
    try go_simp
    have hHeld := hHeld.below hb77
    refine hK.out _ _ hHeld (fun hHeld => ?_)
    clear hK K
    refine take_at 36 78 (.bool true) rfl rfl (by kernel_rfl) (by kernel_rfl) (by kernel_rfl) (fun _ _ _ h => h) (Or.inl ⟨by rfl, by intro W hW; clear hW; go_simp⟩) hHeld ?_
    simp only [put_laws]
    refine take_at 37 79 (.bool true) rfl rfl (by kernel_rfl) (by kernel_rfl) (by kernel_rfl) (fun _ _ _ h => h) (Or.inl ⟨by rfl, by intro W hW; clear hW; go_simp⟩) hHeld ?_
    simp only [put_laws]
    refine wpAnyH_ready (rs := [38]) (by kernel_rfl) (by simp) ?_
    refine AllReadyH.cons rfl (fun K hK => ?_) AllReadyH.nil
    go_simp
    refine (new_any _).mono ?_
    rintro e v9 ⟨rfl, hb80⟩
    try go_simp
    have hHeld := hHeld.below hb80
    refine hK.out _ _ hHeld (fun hHeld => ?_)
    clear hK K
    refine wpAnyH_ready (rs := [39]) (by kernel_rfl) (by simp) ?_
    refine AllReadyH.cons rfl (fun K hK => ?_) AllReadyH.nil
    go_simp
    refine (rnew_any _).mono ?_
    rintro e v10 ⟨rfl, hb81⟩
    try go_simp
    have hHeld := hHeld.below hb81
    refine hK.out _ _ hHeld (fun hHeld => ?_)
    clear hK K
    refine take_at 40 82 (.bool true) rfl rfl (by kernel_rfl) (by kernel_rfl) (by kernel_rfl) (fun _ _ _ h => h) (Or.inl ⟨by rfl, by intro W hW; clear hW; go_simp⟩) hHeld ?_
    simp only [put_laws]
    refine take_at 41 83 (.bool true) rfl rfl (by kernel_rfl) (by kernel_rfl) (by kernel_rfl) (fun _ _ _ h => h) (Or.inl ⟨by rfl, by intro W hW; clear hW; go_simp⟩) hHeld ?_
    simp only [put_laws]
    refine take_at 42 6 (.bool true) rfl rfl (by kernel_rfl) (by kernel_rfl) (by kernel_rfl) (fun _ _ _ h => h) (Or.inl ⟨by rfl, by intro W hW; clear hW; go_simp⟩) hHeld ?_
    simp only [put_laws]
    refine wpAnyH_done (by kernel_rfl) ?_ _
    refine NoPanic.normal ?_
    go_wp2
    go_ret
    exact ⟨rfl, hHeld.t.t.es.bel⟩
theorem topoTells_any (m : Mm.Gr) (o : Od.O) (ea eb : Int) (w : World) (hm : Mm.Ok m) (ho : Od.Ok o) (hea : -9223372036854775808 ≤ ea ∧ ea ≤ 9223372036854775807) (heb : -9223372036854775808 ≤ eb ∧ eb ≤ 9223372036854775807) (hT : TabAt w) :
    Calls Tryd.prog 3 #[.agg (matA m), .agg (ordA o), .agg #[.int .i64 ea, .int .i64 eb]] w fun e w' => e = .returned (.bool true) ∧ Below w.heap.size w w' := by
  by_cases hr : Od.Right o
  · exact topoTells_yes m o ea eb w hm hr hea heb hT
  · exact topoTells_no m o ea eb w hm ho hr hea heb hT
end Go.Proofs.YtgelfjoacppkcaaDoor
