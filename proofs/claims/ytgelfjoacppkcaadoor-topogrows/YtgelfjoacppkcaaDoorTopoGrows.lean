/-
  The walk of TopoGrows.
-/
import Derived.Test.YtgelfjoacppkcaaDoorTopoEdges
import Derived.Test.YtgelfjoacppkcaaDoorTopoRIns2
namespace Go.Proofs.YtgelfjoacppkcaaDoor
open Go.RowKit
attribute [local go_sem ↓] Go.wp_at_zero Go.wp_at_succ
/-- both sides' variables. -/
structure VSt (w : World) (a b : Nat) (M : Mm.Gr) (O : Od.O) (W : World) : Prop where
  m3 : MatAt W a M 32
  o4 : OrdAt W (a + 1) O 34
  m5 : MatAt W b M 24
  o6 : OrdAt W (b + 1) O 26
  bel : Below w.heap.size w W
theorem VSt.below {w W W' : World} {a b : Nat} {M : Mm.Gr} {O : Od.O} (s : VSt w a b M O W) (hb : Below W.heap.size W W') : VSt w a b M O W' := ⟨s.m3.below hb, s.o4.below hb, s.m5.below hb, s.o6.below hb, s.bel.trans (hb.mono s.bel.size)⟩
/-- and the new values beside them. -/
structure V8 (w : World) (a b c d : Nat) (X : Mm.Gr) (Q : Od.O) (W : World) : Prop where
  x : MatAt W c X 32
  q : OrdAt W (c + 1) Q 34
  y : MatAt W d X 24
  z : OrdAt W (d + 1) Q 26
  m3 : ∃ M, MatAt W a M 32
  o4 : ∃ O, OrdAt W (a + 1) O 34
  m5 : ∃ M, MatAt W b M 24
  o6 : ∃ O, OrdAt W (b + 1) O 26
  bel : Below w.heap.size w W
  wa : w.heap.size ≤ a
  ab : a + 1 < b
  bc : b + 1 < c
  cd : c + 1 < d
theorem V8.below {w W W' : World} {a b c d : Nat} {X : Mm.Gr} {Q : Od.O} (s : V8 w a b c d X Q W) (hb : Below W.heap.size W W') : V8 w a b c d X Q W' :=
  ⟨s.x.below hb, s.q.below hb, s.y.below hb, s.z.below hb, s.m3.imp fun _ h => h.below hb, s.o4.imp fun _ h => h.below hb, s.m5.imp fun _ h => h.below hb, s.o6.imp fun _ h => h.below hb, s.bel.trans (hb.mono s.bel.size), s.wa, s.ab, s.bc, s.cd⟩
theorem V8.set {w W : World} {a b c d g : Nat} {X : Mm.Gr} {Q : Od.O} {cs : Array Value} (s : V8 w a b c d X Q W) (hg : g = a ∨ g = a + 1 ∨ g = b ∨ g = b + 1) (h3 : g = a → ∃ M, MatAt (W.setRow g cs) a M 32) (h4 : g = a + 1 → ∃ M, OrdAt (W.setRow g cs) (a + 1) M 34)
    (h5 : g = b → ∃ M, MatAt (W.setRow g cs) b M 24) (h6 : g = b + 1 → ∃ M, OrdAt (W.setRow g cs) (b + 1) M 26) : V8 w a b c d X Q (W.setRow g cs) := by
  have h0 := s.wa
  have h1 := s.ab
  have h2 := s.bc
  have h7 := s.cd
  refine ⟨s.x.setRow _ (by omega), s.q.setRow _ (by omega), s.y.setRow _ (by omega), s.z.setRow _ (by omega), ?_, ?_, ?_, ?_, setRow_below s.bel (by omega), h0, h1, h2, h7⟩
  · by_cases e : g = a
    · exact h3 e
    · exact s.m3.imp fun _ h => h.setRow _ (fun q => e q.symm)
  · by_cases e : g = a + 1
    · exact h4 e
    · exact s.o4.imp fun _ h => h.setRow _ (fun q => e q.symm)
  · by_cases e : g = b
    · exact h5 e
    · exact s.m5.imp fun _ h => h.setRow _ (fun q => e q.symm)
  · by_cases e : g = b + 1
    · exact h6 e
    · exact s.o6.imp fun _ h => h.setRow _ (fun q => e q.symm)
theorem insert_ok' {m : Mm.Gr} {o : Od.O} {a b : Int} {r : Mm.Gr × Od.O × Bool} (hm : Mm.Ok m) (h : Od.insert m o a b = r) : Mm.Ok r.1 := h ▸ Od.insert_ok a b hm
theorem insert_sorted' {m : Mm.Gr} {o : Od.O} {a b : Int} {r : Mm.Gr × Od.O × Bool} (hs : Od.Sorted m o) (h : Od.insert m o a b = r) : Od.Sorted r.1 r.2.1 := h ▸ Od.insert_sorted a b hs
theorem grow_next {es : Nat → Int × Int} {k : Nat} {r : Mm.Gr × Od.O × Bool} (h : Od.insert (growTo es k).1 (growTo es k).2 (es k).1 (es k).2 = r) : growTo es (k + 1) = (r.1, r.2.1) := by rw [growTo, h]
theorem edge_box {W W' : World} (a b : Int) (hb : Below (W.alloc (.cells #[.int .i64 a, .int .i64 b] 28)).heap.size (W.alloc (.cells #[.int .i64 a, .int .i64 b] 28)) W') :
    W'.cell? ⟨W.heap.size, 0, none⟩ = some (.int .i64 a) ∧ W'.cell? ⟨W.heap.size, 1, none⟩ = some (.int .i64 b) := by
  have h : W'.heap[W.heap.size]? = some (.cells #[.int .i64 a, .int .i64 b] 28 (0, 0)) := (hb.block _ (by simp)).trans (heap_alloc_new _ _)
  exact ⟨by rw [cell_of_row _ _ _ _ _ _ h]; rfl, by rw [cell_of_row _ _ _ _ _ _ h]; rfl⟩
def GwRel (w : World) (a b : Nat) (es : Nat → Int × Int) (n : Nat) (i : Value) (wr : World) : Prop :=
  ∃ k : Nat, k ≤ n ∧ i = .int .i64 k ∧ VSt w a b (growTo es k).1 (growTo es k).2 wr
theorem rinsert_val (m : Mm.Gr) (o : Od.O) (a b : Int) (r : Mm.Gr × Od.O × Bool) (w : World) (hm : Mm.Ok m) (ha : i64p a) (hb : i64p b) (hT : TabAt w) (h : Od.insert m o a b = r) :
    Calls Tryd.prog 13 #[.agg (matA m), .agg (ordA o), .int .i64 a, .int .i64 b] w fun e w' => e = .returned (.tuple #[.agg (matA r.1), .agg (ordA r.2.1), .bool r.2.2]) ∧ Below w.heap.size w w' := by
  have := rinsert_any m o a b w hm ha hb hT
  rw [h] at this; exact this
set_option maxHeartbeats 8000000 in
set_option maxRecDepth 100000 in
theorem topoGrows_few (A : Option Addr) (n c : Nat) (es : Nat → Int × Int) (w : World) (hE : EdgesAt w A n c es) (hn : n ≤ 80) (hT : TabAt w) :
    Calls Tryd.prog 4 #[.slice A n c] w fun e w' => e = .returned (.bool true) ∧ Below w.heap.size w w' := by
  have HE := Lib.hid hE
  have HT := Lib.hid hT
  clear hE hT
  go_enter Tryd.func4, Tryd.ntmps4
  go_wp2_with fail
  refine (alive_any _ HT.out).mono ?_
  rintro e w1 ⟨rfl, hb1⟩
  go_wp2_with fail
  refine (new_any _).mono ?_
  rintro e w2 ⟨rfl, hb2⟩
  have HB2 := Lib.hid (hb1.trans (hb2.mono hb1.size))
  clear hb1 hb2
  go_wp2_with (first
    | (refine wpList_let2 rfl rfl 32 34 (.tmp 3) (.tmp 20) (.tmp 4) (.tmp 21) rfl rfl rfl rfl w2 zeroM Od.newO rfl rfl (by rw [zero_row]; rfl) rfl rfl rfl rfl mat_info ord_info ?_; intro wx hM hO hB; have HM1 := Lib.hid hM; have HO1 := Lib.hid hO; have HBx := Lib.hid (HB2.out.trans (hB.mono HB2.out.size)); clear hM hO hB))
  refine (rnew_any _).mono ?_
  rintro e w3 ⟨rfl, hb3⟩
  have HM3 := Lib.hid (HM1.out.below hb3)
  have HO3 := Lib.hid (HO1.out.below hb3)
  have HB3 := Lib.hid (HBx.out.trans (hb3.mono HBx.out.size))
  clear hb3 HM1 HO1 HBx
  go_wp2_with (refine wpList_let2 rfl rfl 24 26 (.tmp 5) (.tmp 22) (.tmp 6) (.tmp 23) rfl rfl rfl rfl w3 zeroM Od.newO rfl rfl (by rw [zero_row]; rfl) rfl rfl rfl rfl rmat_info rord_info ?_; intro wy hM hO hB)
  have HV0 := Lib.hid (show VSt w w2.heap.size w3.heap.size zeroM Od.newO wy from ⟨HM3.out.below hB, HO3.out.below hB, hM, hO, HB3.out.trans (hB.mono HB3.out.size)⟩)
  have hab : w2.heap.size + 1 < w3.heap.size := HO3.out.lt
  have hwa := HB2.out.size
  clear hM hO hB HM3 HO3 HB3
  go_loopw [26] (GwRel w w2.heap.size w3.heap.size es n) (fun i _ => 80 - (intOf i).toNat)
  case atStart => exact ⟨0, by omega, rfl, HV0.out⟩
  case round =>
    obtain ⟨k, hk, rfl, hV⟩ := hrel
    have HVr := Lib.hid hV
    clear hV HV0
    by_cases hlt : k < n
    · obtain ⟨ad, rfl, hcs⟩ := HE.out.2.2 (by omega)
      obtain ⟨d0, d1, r0, r1⟩ := hcs k hlt
      have e0 := (HVr.out.bel.cell (cell_lt d0)).trans d0
      have e1 := (HVr.out.bel.cell (cell_lt d1)).trans d1
      have e2 := edge_second e1
      have HR0 := Lib.hid r0
      have HR1 := Lib.hid r1
      have HOk := Lib.hid (grow_ok es k)
      have HSt := Lib.hid (grow_sorted es k)
      clear hcs d0 d1 e1 r0 r1
      go_wp2_with (first
        | (refine wpList_load_row rfl 32 (.tmp 3) rfl w2.heap.size rfl 32 (matA (growTo es k).1) (0, 0) _ (HVr.out.below (below_new _ _)).m3 Tryd.underlying32 rfl (matInfo _) ?_)
        | (refine wpList_load_row rfl 34 (.tmp 4) rfl (w2.heap.size + 1) rfl 34 (ordA (growTo es k).2) (0, 0) _ (HVr.out.below (below_new _ _)).o4 Tryd.underlying34 rfl (ordInfo _) ?_))
      obtain ⟨r, hr⟩ : ∃ r, Od.insert (growTo es k).1 (growTo es k).2 (es k).1 (es k).2 = r := ⟨_, rfl⟩
      have HXk := Lib.hid (insert_ok' HOk.out hr)
      have HXs := Lib.hid (insert_sorted' HSt.out hr)
      have HGw := Lib.hid (grow_next hr)
      refine (insert_val _ _ _ _ _ _ HOk.out HSt.out.1.ok HR0.out HR1.out (tab_keep HT.out (HVr.out.below (below_new _ _)).bel) hr).mono ?_
      have HIns := Lib.hid hr
      clear hr
      obtain ⟨X, Q, is⟩ := r
      rintro e w5 ⟨rfl, hb5⟩
      have hed := edge_box (es k).1 (es k).2 hb5
      have HV5 := Lib.hid ((HVr.out.below (below_new _ _)).below hb5)
      have hbc : w3.heap.size + 1 < w5.heap.size := HV5.out.o6.lt
      clear hb5 HVr e0 e2
      obtain ⟨f0, f1⟩ := hed
      have HF0 := Lib.hid f0
      have HF1 := Lib.hid f1
      clear f0 f1
      go_wp2_with (first
        | (refine wpList_let2 rfl rfl 32 34 (.tmp 9) (.tmp 38) (.tmp 10) (.tmp 39) rfl rfl rfl rfl w5 X Q rfl rfl rfl rfl rfl rfl rfl mat_info ord_info ?_; intro wz hM hO hB; have HV6 := Lib.hid (HV5.out.below hB); have HX6 := Lib.hid hM; have HQ6 := Lib.hid hO; have g0 := cell_keep HF0.out hB; have g1 := cell_keep HF1.out hB; clear hM hO hB)
        | (refine wpList_load_row rfl 24 (.tmp 5) rfl w3.heap.size rfl 24 (matA (growTo es k).1) (0, 0) _ HV6.out.m5 Tryd.underlying24 rfl (rmatInfo _) ?_)
        | (refine wpList_load_row rfl 26 (.tmp 6) rfl (w3.heap.size + 1) rfl 26 (ordA (growTo es k).2) (0, 0) _ HV6.out.o6 Tryd.underlying26 rfl (rordInfo _) ?_))
      refine (rinsert_val _ _ _ _ _ _ HOk.out HR0.out HR1.out (tab_keep HT.out HV6.out.bel) HIns.out).mono ?_
      rintro e w6 ⟨rfl, hb6⟩
      have HV7 := Lib.hid (HV6.out.below hb6)
      have HX7 := Lib.hid (HX6.out.below hb6)
      have HQ7 := Lib.hid (HQ6.out.below hb6)
      have hcd : w5.heap.size + 1 < w6.heap.size := HQ7.out.lt
      clear hb6 HV6 HX6 HQ6 g0 g1 HF0 HF1 HV5
      go_wp2_with (refine wpList_let2 rfl rfl 24 26 (.tmp 12) (.tmp 49) (.tmp 13) (.tmp 50) rfl rfl rfl rfl w6 X Q rfl rfl rfl rfl rfl rfl rfl rmat_info rord_info ?_; intro wv hM hO hB; have HV := Lib.hid (show V8 w w2.heap.size w3.heap.size w5.heap.size w6.heap.size X Q wv from ⟨HX7.out.below hB, HQ7.out.below hB, hM, hO, ⟨_, HV7.out.m3.below hB⟩, ⟨_, HV7.out.o4.below hB⟩, ⟨_, HV7.out.m5.below hB⟩, ⟨_, HV7.out.o6.below hB⟩, (HV7.out.below hB).bel, hwa, hab, hbc, hcd⟩); clear hM hO hB)
      refine wp_region_noPanic ?_
      refine region_start (S := V8 w w2.heap.size w3.heap.size w5.heap.size w6.heap.size X Q) 8 rfl (by kernel_rfl) (HV.out.below (below_drew _)) (fun hHeld => ?_)
      refine take_at 0 52 (.agg (matA X)) rfl rfl (by kernel_rfl) (by kernel_rfl) (by kernel_rfl) (fun _ _ _ h => h) (yields_row (by rfl) 32 (.tmp 9) rfl (w5.heap.size) rfl 32 (matA X) (fun W h => h.x) Tryd.underlying32 (matInfo _)) hHeld ?_
      simp only [put_laws]
      refine take_at 1 53 (.agg (ordA Q)) rfl rfl (by kernel_rfl) (by kernel_rfl) (by kernel_rfl) (fun _ _ _ h => h) (yields_row (by rfl) 34 (.tmp 10) rfl (w5.heap.size + 1) rfl 34 (ordA Q) (fun W h => h.q) Tryd.underlying34 (ordInfo _)) hHeld ?_
      simp only [put_laws]
      refine take_at 2 54 (.agg (matA X)) rfl rfl (by kernel_rfl) (by kernel_rfl) (by kernel_rfl) (fun _ _ _ h => h) (yields_row (by rfl) 24 (.tmp 12) rfl (w6.heap.size) rfl 24 (matA X) (fun W h => h.y) Tryd.underlying24 (rmatInfo _)) hHeld ?_
      simp only [put_laws]
      refine take_at 3 55 (.agg (ordA Q)) rfl rfl (by kernel_rfl) (by kernel_rfl) (by kernel_rfl) (fun _ _ _ h => h) (yields_row (by rfl) 26 (.tmp 13) rfl (w6.heap.size + 1) rfl 26 (ordA Q) (fun W h => h.z) Tryd.underlying26 (rordInfo _)) hHeld ?_
      simp only [put_laws]
      refine wpAnyH_ready (rs := [4]) (by kernel_rfl) (by simp) ?_
      refine AllReadyH.cons rfl (fun K hK => ?_) AllReadyH.nil
      obtain ⟨old, hold⟩ := hHeld.m3
      refine step_store_row (by rfl) 32 (.tmp 3) (.tmp 52) (by rfl) (w2.heap.size) (matA X) (by rfl) (by rfl) 32 _ hold (matInfo _) (by rw [matA_size, matA_size]) (matA_one _) ?_
      have hHeld := hHeld.set (g := w2.heap.size) (cs := matA X) (.inl rfl) (fun _ => ⟨_, matAt_put hold⟩) (fun e => absurd e (by omega)) (fun e => absurd e (by omega)) (fun e => absurd e (by omega))
      have h3n := matAt_put (n := X) hold
      clear hold
      refine hK.out _ _ hHeld (fun hHeld => ?_)
      clear hK K
      refine wpAnyH_ready (rs := [5]) (by kernel_rfl) (by simp) ?_
      refine AllReadyH.cons rfl (fun K hK => ?_) AllReadyH.nil
      obtain ⟨old, hold⟩ := hHeld.o4
      refine step_store_row (by rfl) 34 (.tmp 4) (.tmp 53) (by rfl) (w2.heap.size + 1) (ordA Q) (by rfl) (by rfl) 34 _ hold (ordInfo _) (by rw [ordA_size, ordA_size]) (ordA_one _) ?_
      have hHeld := hHeld.set (g := w2.heap.size + 1) (cs := ordA Q) (.inr (.inl rfl)) (fun e => absurd e (by omega)) (fun _ => ⟨_, ordAt_put hold⟩) (fun e => absurd e (by omega)) (fun e => absurd e (by omega))
      have h4n := ordAt_put (q := Q) hold
      have h3n := h3n.setRow (k := w2.heap.size + 1) (ordA Q) (by omega)
      clear hold
      refine hK.out _ _ hHeld (fun hHeld => ?_)
      clear hK K
      refine wpAnyH_ready (rs := [6]) (by kernel_rfl) (by simp) ?_
      refine AllReadyH.cons rfl (fun K hK => ?_) AllReadyH.nil
      obtain ⟨old, hold⟩ := hHeld.m5
      refine step_store_row (by rfl) 24 (.tmp 5) (.tmp 54) (by rfl) (w3.heap.size) (matA X) (by rfl) (by rfl) 24 _ hold (rmatInfo _) (by rw [matA_size, matA_size]) (matA_one _) ?_
      have hHeld := hHeld.set (g := w3.heap.size) (cs := matA X) (.inr (.inr (.inl rfl))) (fun e => absurd e (by omega)) (fun e => absurd e (by omega)) (fun _ => ⟨_, matAt_put hold⟩) (fun e => absurd e (by omega))
      have h5n := matAt_put (n := X) hold
      have h3n := h3n.setRow (k := w3.heap.size) (matA X) (by omega)
      have h4n := h4n.setRow (k := w3.heap.size) (matA X) (by omega)
      clear hold
      refine hK.out _ _ hHeld (fun hHeld => ?_)
      clear hK K
      refine wpAnyH_ready (rs := [7]) (by kernel_rfl) (by simp) ?_
      refine AllReadyH.cons rfl (fun K hK => ?_) AllReadyH.nil
      obtain ⟨old, hold⟩ := hHeld.o6
      refine step_store_row (by rfl) 26 (.tmp 6) (.tmp 55) (by rfl) (w3.heap.size + 1) (ordA Q) (by rfl) (by rfl) 26 _ hold (rordInfo _) (by rw [ordA_size, ordA_size]) (ordA_one _) ?_
      have hHeld := hHeld.set (g := w3.heap.size + 1) (cs := ordA Q) (.inr (.inr (.inr rfl))) (fun e => absurd e (by omega)) (fun e => absurd e (by omega)) (fun e => absurd e (by omega)) (fun _ => ⟨_, ordAt_put hold⟩)
      have h6n := ordAt_put (q := Q) hold
      have h3n := h3n.setRow (k := w3.heap.size + 1) (ordA Q) (by omega)
      have h4n := h4n.setRow (k := w3.heap.size + 1) (ordA Q) (by omega)
      have h5n := h5n.setRow (k := w3.heap.size + 1) (ordA Q) (by omega)
      clear hold
      refine hK.out _ _ hHeld (fun hHeld => ?_)
      clear hK K
      refine wpAnyH_done (by kernel_rfl) ?_ _
      refine NoPanic.normal ?_
      have HW := Lib.hid (show VSt w w2.heap.size w3.heap.size X Q _ from ⟨h3n, h4n, h5n, h6n, hHeld.bel⟩)
      clear h3n h4n h5n h6n hHeld HV HV7 HX7 HQ7
      have hE1 := eq_rmat X X true (sameM_self X)
      have hE2 := eq_rord Q Q true (sameO_self Q)
      go_wp2_with fail
      refine wp_region_noPanic ?_
      refine region_start (S := VSt w w2.heap.size w3.heap.size X Q) 20 rfl (by kernel_rfl) (HW.out.below (below_drew _)) (fun hHeld => ?_)
      refine take_at 0 56 (.bool is) rfl rfl (by kernel_rfl) (by kernel_rfl) (by kernel_rfl) (fun _ _ _ h => h) (Or.inl ⟨by rfl, by intro W hW; clear hW; go_simp⟩) hHeld ?_
      simp only [put_laws]
      refine take_at 1 57 (.bool is) rfl rfl (by kernel_rfl) (by kernel_rfl) (by kernel_rfl) (fun _ _ _ h => h) (Or.inl ⟨by rfl, by intro W hW; clear hW; go_simp⟩) hHeld ?_
      simp only [put_laws]
      refine take_at 2 58 (.bool false) rfl rfl (by kernel_rfl) (by kernel_rfl) (by kernel_rfl) (fun _ _ _ h => h) (Or.inl ⟨by rfl, by intro W hW; clear hW; go_simp⟩) hHeld ?_
      simp only [put_laws]
      refine take_at 3 59 (.bool false) rfl rfl (by kernel_rfl) (by kernel_rfl) (by kernel_rfl) (fun _ _ _ h => h) (Or.inl ⟨by rfl, by intro W hW; clear hW; go_simp⟩) hHeld ?_
      simp only [put_laws]
      refine take_at 4 60 (.agg (matA X)) rfl rfl (by kernel_rfl) (by kernel_rfl) (by kernel_rfl) (fun _ _ _ h => h) (yields_row (by rfl) 32 (.tmp 3) rfl (w2.heap.size) rfl 32 (matA X) (fun W h => h.m3) Tryd.underlying32 (matInfo _)) hHeld ?_
      simp only [put_laws]
      refine take_at 6 62 (.agg (matA X)) rfl rfl (by kernel_rfl) (by kernel_rfl) (by kernel_rfl) (fun _ _ _ h => h) (yields_row (by rfl) 24 (.tmp 5) rfl (w3.heap.size) rfl 24 (matA X) (fun W h => h.m5) Tryd.underlying24 (rmatInfo _)) hHeld ?_
      simp only [put_laws]
      refine wpAnyH_ready (rs := [5]) (by kernel_rfl) (by simp) ?_
      refine AllReadyH.cons rfl (fun K hK => ?_) AllReadyH.nil
      go_simp
      refine (ours_any X _).mono ?_
      rintro e wa ⟨rfl, hb61⟩
      try go_simp
      have hHeld := hHeld.below hb61
      refine hK.out _ _ hHeld (fun hHeld => ?_)
      clear hK K
      refine take_at 7 63 (.bool false) rfl rfl (by kernel_rfl) (by kernel_rfl) (by kernel_rfl) (fun _ _ _ h => h) (Or.inl ⟨by rfl, by intro W hW; clear hW; go_simp⟩) hHeld ?_
      simp only [put_laws]
      refine take_at 8 64 (.bool false) rfl rfl (by kernel_rfl) (by kernel_rfl) (by kernel_rfl) (fun _ _ _ h => h) (Or.inl ⟨by rfl, by intro W hW; clear hW; go_simp⟩) hHeld ?_
      simp only [put_laws]
      refine take_at 9 65 (.bool false) rfl rfl (by kernel_rfl) (by kernel_rfl) (by kernel_rfl) (fun _ _ _ h => h) (Or.inl ⟨by rfl, by intro W hW; clear hW; go_simp⟩) hHeld ?_
      simp only [put_laws]
      refine take_at 10 66 (.agg (ordA Q)) rfl rfl (by kernel_rfl) (by kernel_rfl) (by kernel_rfl) (fun _ _ _ h => h) (yields_row (by rfl) 34 (.tmp 4) rfl (w2.heap.size + 1) rfl 34 (ordA Q) (fun W h => h.o4) Tryd.underlying34 (ordInfo _)) hHeld ?_
      simp only [put_laws]
      refine take_at 11 67 (.agg (ordA Q)) rfl rfl (by kernel_rfl) (by kernel_rfl) (by kernel_rfl) (fun _ _ _ h => h) (yields_row (by rfl) 26 (.tmp 6) rfl (w3.heap.size + 1) rfl 26 (ordA Q) (fun W h => h.o6) Tryd.underlying26 (rordInfo _)) hHeld ?_
      simp only [put_laws]
      refine take_at 12 68 (.bool false) rfl rfl (by kernel_rfl) (by kernel_rfl) (by kernel_rfl) (fun _ _ _ h => h) (Or.inl ⟨by rfl, by intro W hW; clear hW; go_simp⟩) hHeld ?_
      simp only [put_laws]
      refine take_at 13 69 (.bool false) rfl rfl (by kernel_rfl) (by kernel_rfl) (by kernel_rfl) (fun _ _ _ h => h) (Or.inl ⟨by rfl, by intro W hW; clear hW; go_simp⟩) hHeld ?_
      simp only [put_laws]
      refine take_at 14 70 (.bool false) rfl rfl (by kernel_rfl) (by kernel_rfl) (by kernel_rfl) (fun _ _ _ h => h) (Or.inl ⟨by rfl, by intro W hW; clear hW; go_simp⟩) hHeld ?_
      simp only [put_laws]
      refine take_at 15 71 (.agg (matA X)) rfl rfl (by kernel_rfl) (by kernel_rfl) (by kernel_rfl) (fun _ _ _ h => h) (yields_row (by rfl) 32 (.tmp 3) rfl (w2.heap.size) rfl 32 (matA X) (fun W h => h.m3) Tryd.underlying32 (matInfo _)) hHeld ?_
      simp only [put_laws]
      refine take_at 16 72 (.agg (ordA Q)) rfl rfl (by kernel_rfl) (by kernel_rfl) (by kernel_rfl) (fun _ _ _ h => h) (yields_row (by rfl) 34 (.tmp 4) rfl (w2.heap.size + 1) rfl 34 (ordA Q) (fun W h => h.o4) Tryd.underlying34 (ordInfo _)) hHeld ?_
      simp only [put_laws]
      refine wpAnyH_ready (rs := [17]) (by kernel_rfl) (by simp) ?_
      refine AllReadyH.cons rfl (fun K hK => ?_) AllReadyH.nil
      go_simp
      refine (sorted_val X Q true _ HXk.out HXs.out.1.ok (tab_keep HT.out hHeld.bel) (Od.sortedB_yes HXs.out)).mono ?_
      rintro e wb ⟨rfl, hb73⟩
      try go_simp
      have hHeld := hHeld.below hb73
      refine hK.out _ _ hHeld (fun hHeld => ?_)
      clear hK K
      refine take_at 18 74 (.bool false) rfl rfl (by kernel_rfl) (by kernel_rfl) (by kernel_rfl) (fun _ _ _ h => h) (Or.inl ⟨by rfl, by intro W hW; clear hW; go_simp⟩) hHeld ?_
      simp only [put_laws]
      refine take_at 19 75 (.bool false) rfl rfl (by kernel_rfl) (by kernel_rfl) (by kernel_rfl) (fun _ _ _ h => h) (Or.inl ⟨by rfl, by intro W hW; clear hW; go_simp⟩) hHeld ?_
      simp only [put_laws]
      refine wpAnyH_done (by kernel_rfl) ?_ _
      refine NoPanic.normal ?_
      have HZ := Lib.hid hHeld
      clear hHeld HW
      go_wp2
      refine ⟨⟨k + 1, by omega, by go_num, ?_⟩, by simp [intOf]; omega⟩
      rw [HGw.out]; exact HZ.out
    · obtain rfl : k = n := by omega
      go_wp2
      go_ret
      exact ⟨rfl, HVr.out.bel⟩
set_option maxHeartbeats 1000000 in
theorem topoGrows_any (A : Option Addr) (n c : Nat) (es : Nat → Int × Int) (w : World) (hE : EdgesAt w A n c es) (hT : TabAt w) :
    Calls Tryd.prog 4 #[.slice A n c] w fun e w' => e = .returned (.bool true) ∧ Below w.heap.size w w' := by
  by_cases hn : n ≤ 80
  · exact topoGrows_few A n c es w hE hn hT
  · have hbig : (80 : Int) < (n : Int) := by omega
    have HT := Lib.hid hT
    clear hT hE
    go_enter Tryd.func4, Tryd.ntmps4
    go_wp2_with fail
    refine (alive_any _ HT.out).mono ?_
    rintro e w1 ⟨rfl, hb1⟩
    go_wp2
    go_ret
    exact ⟨rfl, hb1⟩
end Go.Proofs.YtgelfjoacppkcaaDoor
