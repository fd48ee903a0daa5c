/-
  The contract of the statements' own does: an act on a pool, and on the document's.
-/
import Derived.Test.YtakoceablbgchaaDoorPoolEq
namespace Go.Proofs.YtakoceablbgchaaDoor
open Go.RowKit
attribute [local go_sem ↓] Go.wp_at_zero Go.wp_at_succ
def actA (x : Po.Act) : Array Value := #[.int .u8 (x.kind : Nat), .int .i64 x.a, .int .i64 x.b]
/-- the arguments' boxes, and what is told. -/
structure DSt (p m : Pl) (x : Po.Act) (w : World) (W : World) : Prop where
  po : PoolAt W w.heap.size p 31
  pm : PoolAt W (w.heap.size + 1) m 38
  ac : W.heap[w.heap.size + 2]? = some (.cells (actA x) 43 (0, 0))
  r0 : ∃ q, PoolAt W (w.heap.size + 3) q 31
  r1 : ∃ q, PoolAt W (w.heap.size + 4) q 38
  bel : Below w.heap.size w W
theorem DSt.below {p m : Pl} {x : Po.Act} {w W W' : World} (h : DSt p m x w W) (hb : Below W.heap.size W W') : DSt p m x w W' :=
  ⟨h.po.below hb, h.pm.below hb, (hb.block _ (Array.getElem?_eq_some_iff.1 h.ac).1).trans h.ac, by obtain ⟨q, hq⟩ := h.r0; exact ⟨q, hq.below hb⟩, by obtain ⟨q, hq⟩ := h.r1; exact ⟨q, hq.below hb⟩, h.bel.trans (hb.mono h.bel.size)⟩
theorem DSt.kind {p m : Pl} {x : Po.Act} {w W : World} (h : DSt p m x w W) : W.cell? ⟨w.heap.size + 2, 0, none⟩ = some (.int .u8 (x.kind : Nat)) := by rw [cell_of_row _ _ _ _ _ _ h.ac]; rfl
theorem DSt.fa {p m : Pl} {x : Po.Act} {w W : World} (h : DSt p m x w W) : W.cell? ⟨w.heap.size + 2, 1, none⟩ = some (.int .i64 x.a) := by rw [cell_of_row _ _ _ _ _ _ h.ac]; rfl
theorem DSt.fb {p m : Pl} {x : Po.Act} {w W : World} (h : DSt p m x w W) : W.cell? ⟨w.heap.size + 2, 2, none⟩ = some (.int .i64 x.b) := by rw [cell_of_row _ _ _ _ _ _ h.ac]; rfl
def dWorld (p m : Pl) (x : Po.Act) (w : World) : World := ((((w.alloc (.cells (poolA p) 31)).alloc (.cells (poolA m) 38)).alloc (.cells (actA x) 43)).alloc (.cells (poolA zeroP) 31)).alloc (.cells (poolA zeroP) 38)
theorem alloc_get (w : World) (o : Obj) (k : Nat) (h : k < w.heap.size) : (w.alloc o).heap[k]? = w.heap[k]? := Below.heap_alloc w o k h
theorem alloc_size (w : World) (o : Obj) : (w.alloc o).heap.size = w.heap.size + 1 := by simp
theorem dst_first (p m : Pl) (x : Po.Act) (w : World) : DSt p m x w (dWorld p m x w) := by
  unfold dWorld
  refine ⟨((((poolAt_new w p 31).alloc _).alloc _).alloc _).alloc _, ?_, ?_, ⟨zeroP, ?_⟩, ⟨zeroP, ?_⟩, ?_⟩
  · have := poolAt_new (w.alloc (.cells (poolA p) 31)) m 38
    rw [alloc_size] at this
    exact ((this.alloc _).alloc _).alloc _
  · rw [alloc_get _ _ _ (by simp), alloc_get _ _ _ (by simp)]
    have := heap_alloc_new ((w.alloc (.cells (poolA p) 31)).alloc (.cells (poolA m) 38)) (.cells (actA x) 43)
    rw [alloc_size, alloc_size] at this
    exact this
  · have := poolAt_new (((w.alloc (.cells (poolA p) 31)).alloc (.cells (poolA m) 38)).alloc (.cells (actA x) 43)) zeroP 31
    rw [alloc_size, alloc_size, alloc_size] at this
    exact this.alloc _
  · have := poolAt_new ((((w.alloc (.cells (poolA p) 31)).alloc (.cells (poolA m) 38)).alloc (.cells (actA x) 43)).alloc (.cells (poolA zeroP) 31)) zeroP 38
    rw [alloc_size, alloc_size, alloc_size, alloc_size] at this
    exact this
  · exact (((((Below.refl _ _).alloc (Nat.le_refl _) _).alloc (by simp) _).alloc (by simp; omega) _).alloc (by simp; omega) _).alloc (by simp; omega) _
theorem wpList_letP {ops : Array Oper} {rest : List Oper} {op : Oper} {a : Act} {V : World} {Q : Exit → Act → World → Prop} (hgd : op.guard = none) (t : Nat) (x y : Operand) (ho : op.op = .store t x y) (hds : op.dst = none)
    (W : World) (q : Pl) (hV : V = W.alloc (.cells (poolA zeroP) t)) (hx : a.eval x = .pointer (some ⟨W.heap.size, 0, none⟩)) (hy : a.eval y = .agg (poolA q)) (hi : (Tryd.prog.info? t).map (·.size) = some 100)
    (h : ∀ W', PoolAt W' W.heap.size q t → Below W.heap.size W W' → wpList Tryd.prog ops Q rest a W') : wpList Tryd.prog ops Q (op :: rest) a V := by
  subst hV
  refine store_pool hgd t x y ho hds W.heap.size zeroP q t hx hy (poolAt_new _ _ _) hi ?_
  rw [World.setRow_alloc_new]
  exact h _ (poolAt_new _ _ _) (below_new _ _)
/-- what each act ends with. -/
structure DEnd (p m : Pl) (x : Po.Act) (w : World) (b1 : Nat) (q1 : Pl) (b2 : Nat) (q2 : Pl) (W : World) : Prop where
  st : DSt p m x w W
  n1 : PoolAt W b1 q1 31
  n2 : PoolAt W b2 q2 38
  l1 : w.heap.size + 5 ≤ b1
  l2 : w.heap.size + 5 ≤ b2
theorem DEnd.below {p m : Pl} {x : Po.Act} {w W W' : World} {b1 b2 : Nat} {q1 q2 : Pl} (h : DEnd p m x w b1 q1 b2 q2 W) (hb : Below W.heap.size W W') : DEnd p m x w b1 q1 b2 q2 W' := ⟨h.st.below hb, h.n1.below hb, h.n2.below hb, h.l1, h.l2⟩
theorem DSt.size5 {p m : Pl} {x : Po.Act} {w W : World} (h : DSt p m x w W) : w.heap.size + 5 ≤ W.heap.size := by obtain ⟨q, hq⟩ := h.r1; have := hq.lt; omega
theorem DSt.put0 {p m : Pl} {x : Po.Act} {w W : World} (h : DSt p m x w W) (q : Pl) : DSt p m x w (W.setRow (w.heap.size + 3) (poolA q)) :=
  ⟨h.po.setRow _ (by omega), h.pm.setRow _ (by omega), (setRow_other _ _ _ _ (by omega)).trans h.ac, by obtain ⟨r, hr⟩ := h.r0; exact ⟨q, poolAt_put hr⟩, by obtain ⟨r, hr⟩ := h.r1; exact ⟨r, hr.setRow _ (by omega)⟩, setRow_below h.bel (by omega)⟩
theorem DSt.put1 {p m : Pl} {x : Po.Act} {w W : World} (h : DSt p m x w W) (q : Pl) : DSt p m x w (W.setRow (w.heap.size + 4) (poolA q)) :=
  ⟨h.po.setRow _ (by omega), h.pm.setRow _ (by omega), (setRow_other _ _ _ _ (by omega)).trans h.ac, by obtain ⟨r, hr⟩ := h.r0; exact ⟨r, hr.setRow _ (by omega)⟩, by obtain ⟨r, hr⟩ := h.r1; exact ⟨q, poolAt_put hr⟩, setRow_below h.bel (by omega)⟩
theorem DEnd.put0 {p m : Pl} {x : Po.Act} {w W : World} {b1 b2 : Nat} {q1 q2 : Pl} (h : DEnd p m x w b1 q1 b2 q2 W) (q : Pl) : DEnd p m x w b1 q1 b2 q2 (W.setRow (w.heap.size + 3) (poolA q)) :=
  ⟨h.st.put0 q, h.n1.setRow _ (by have := h.l1; omega), h.n2.setRow _ (by have := h.l2; omega), h.l1, h.l2⟩
theorem DEnd.put1 {p m : Pl} {x : Po.Act} {w W : World} {b1 b2 : Nat} {q1 q2 : Pl} (h : DEnd p m x w b1 q1 b2 q2 W) (q : Pl) : DEnd p m x w b1 q1 b2 q2 (W.setRow (w.heap.size + 4) (poolA q)) :=
  ⟨h.st.put1 q, h.n1.setRow _ (by have := h.l1; omega), h.n2.setRow _ (by have := h.l2; omega), h.l1, h.l2⟩
structure DEndC (p m : Pl) (x : Po.Act) (w : World) (b1 : Nat) (q1 : Pl) (b2 : Nat) (q2 : Pl) (v1 : Value) (l1 : List Int) (v2 : Value) (l2 : List Int) (W : World) : Prop where
  e : DEnd p m x w b1 q1 b2 q2 W
  r1 : OwnI W (w.heap.size + 5) v1 l1
  r2 : OwnI W (w.heap.size + 5) v2 l2
theorem DEndC.below {p m : Pl} {x : Po.Act} {w W W' : World} {b1 b2 : Nat} {q1 q2 : Pl} {v1 v2 : Value} {l1 l2 : List Int} (h : DEndC p m x w b1 q1 b2 q2 v1 l1 v2 l2 W) (hb : Below W.heap.size W W') : DEndC p m x w b1 q1 b2 q2 v1 l1 v2 l2 W' :=
  ⟨h.e.below hb, h.r1.below hb (Nat.le_refl _), h.r2.below hb (Nat.le_refl _)⟩
theorem DEndC.put0 {p m : Pl} {x : Po.Act} {w W : World} {b1 b2 : Nat} {q1 q2 : Pl} {v1 v2 : Value} {l1 l2 : List Int} (h : DEndC p m x w b1 q1 b2 q2 v1 l1 v2 l2 W) (q : Pl) : DEndC p m x w b1 q1 b2 q2 v1 l1 v2 l2 (W.setRow (w.heap.size + 3) (poolA q)) :=
  ⟨h.e.put0 q, h.r1.setRow _ (by omega), h.r2.setRow _ (by omega)⟩
theorem DEndC.put1 {p m : Pl} {x : Po.Act} {w W : World} {b1 b2 : Nat} {q1 q2 : Pl} {v1 v2 : Value} {l1 l2 : List Int} (h : DEndC p m x w b1 q1 b2 q2 v1 l1 v2 l2 W) (q : Pl) : DEndC p m x w b1 q1 b2 q2 v1 l1 v2 l2 (W.setRow (w.heap.size + 4) (poolA q)) :=
  ⟨h.e.put1 q, h.r1.setRow _ (by omega), h.r2.setRow _ (by omega)⟩
theorem results_pools {fn : Func} {c c' u : Tmp} {ty tz : TypeId} (h : fn.results = #[.cell c ty, .cell c' tz, .tmp u]) (tmps : Array Value) (w : World) (g g' : Nat) (t t' : TypeId) (p q : Pl) (d d' : TypeDesc) (x : Value)
    (hp : tmps.getD c undef = .pointer (some ⟨g, 0, none⟩)) (hq : tmps.getD c' undef = .pointer (some ⟨g', 0, none⟩)) (hx : tmps.getD u undef = x) (hg : PoolAt w g p t) (hg' : PoolAt w g' q t')
    (hu : Tryd.prog.underlying ty = some d) (hd : d.isRow = true) (hi : (Tryd.prog.info? ty).map (·.size) = some 100) (hu' : Tryd.prog.underlying tz = some d') (hd' : d'.isRow = true) (hi' : (Tryd.prog.info? tz).map (·.size) = some 100) :
    (results fn tmps).run Tryd.prog w = .ok (.tuple #[.agg (poolA p), .agg (poolA q), x]) w := by
  have hp' : tmps[c]?.getD undef = .pointer (some ⟨g, 0, none⟩) := by simpa using hp
  have hq' : tmps[c']?.getD undef = .pointer (some ⟨g', 0, none⟩) := by simpa using hq
  have hx' : tmps[u]?.getD undef = x := by simpa using hx
  simp only [results, h]
  simp [hp', hq', hx', asAddr, Result.andThen, load_whole w g p t ty d hg hu hd hi, load_whole w g' q t' tz d' hg' hu' hd' hi']
/-- what does tells. -/
def DPost (p m : Pl) (q1 q2 : Pl) (w : World) (e : Ending) (w' : World) : Prop :=
  ∃ b, e = .returned (.tuple #[.agg (poolA q1), .agg (poolA q2), .bool b]) ∧ (p = m → b = true) ∧ Below w.heap.size w w'
/-- what is asked of both pools. -/
structure DAsk (p m : Pl) (x : Po.Act) (w : World) : Prop where
  okp : p.Ok
  okm : m.Ok
  pc : p.count < 9223372036854775807
  mc : m.count < 9223372036854775807
  ms : m.size ≤ 32
  md : m.done < 4294967296
  a : -9223372036854775808 ≤ x.a ∧ x.a ≤ 9223372036854775807
  b : -9223372036854775808 ≤ x.b ∧ x.b ≤ 9223372036854775807
  k : x.kind < 256
  cmp : m = p ∨ m = zeroP
  t : TabAt w
set_option maxHeartbeats 2000000 in
set_option maxRecDepth 100000 in
theorem does_edge2 (p m : Pl) (x : Po.Act) (w : World) (hA : DAsk p m x w) (hr : (x.kind : Int).tmod 6 = 2) :
    Calls Tryd.prog 13 #[.agg (poolA p), .agg (poolA m), .agg (actA x)] w (DPost p m ((Po.edge p x.a x.b).1) ((Po.edge m x.a x.b).1) w) := by
  have hz1 := (zero_of_info zero_pool_info).1
  have hz2 := (zero_of_info zero_rpool_info).1
  have H0 := Lib.hid (dst_first p m x w)
  have HA := Lib.hid hA
  have hk := hA.k
  have hc := H0.out.kind
  have hfa := H0.out.fa
  have hfb := H0.out.fb
  unfold dWorld at hc hfa hfb H0
  clear hA
  go_enter Tryd.func13, Tryd.ntmps13
  go_wp2_with (refine load_pool rfl 31 (.tmp 3) rfl w.heap.size p 31 rfl _ H0.out.po Tryd.underlying31 rfl pool_info ?_)
  refine (edge_any p x.a x.b _ HA.out.okp HA.out.a HA.out.b (tab_keep HA.out.t H0.out.bel)).mono ?_
  rintro e w1 ⟨rfl, hb1⟩
  generalize hq1 : (Po.edge p x.a x.b).1 = Q1
  generalize he1 : (Po.edge p x.a x.b).2 = E1
  have HQ1 := Lib.hid hq1
  have HE1 := Lib.hid he1
  clear hq1 he1
  have H1 := Lib.hid (H0.out.below hb1)
  have hfa1 := H1.out.fa
  have hfb1 := H1.out.fb
  clear hb1 H0 hc hfa hfb
  go_wp2_with (first
    | (refine wpList_letP rfl 31 (.tmp 9) (.tmp 40) rfl rfl w1 Q1 rfl rfl rfl pool_info ?_; intro w2 n2 hb2; have N2 := Lib.hid n2; have H2 := Lib.hid (H1.out.below hb2); have hfa2 := H2.out.fa; have hfb2 := H2.out.fb; have L2 := Lib.hid (show w.heap.size + 5 ≤ w1.heap.size from H1.out.size5); clear n2 hb2)
    | (refine load_pool rfl 38 (.tmp 4) rfl (w.heap.size + 1) m 38 rfl _ H2.out.pm Tryd.underlying38 rfl rpool_info ?_))
  refine (redge_any m x.a x.b _ HA.out.okm HA.out.a HA.out.b (tab_keep HA.out.t H2.out.bel)).mono ?_
  rintro e w3 ⟨rfl, hb3⟩
  generalize hq2 : (Po.edge m x.a x.b).1 = Q2
  generalize he2 : (Po.edge m x.a x.b).2 = E2
  have HQ2 := Lib.hid hq2
  have HE2 := Lib.hid he2
  clear hq2 he2
  have H3 := Lib.hid (H2.out.below hb3)
  have N3 := Lib.hid (N2.out.below hb3)
  clear hb3 H1 H2 N2 hfa1 hfb1 hfa2 hfb2
  go_wp2_with (refine wpList_letP rfl 38 (.tmp 11) (.tmp 49) rfl rfl w3 Q2 rfl rfl rfl rpool_info ?_; intro w4 n4 hb4; have H4 := Lib.hid (show DEnd p m x w w1.heap.size Q1 w3.heap.size Q2 w4 from ⟨H3.out.below hb4, N3.out.below hb4, n4, L2.out, H3.out.size5⟩); clear n4 hb4)
  refine wp_region_noPanic ?_
  refine region_start (S := DEnd p m x w w1.heap.size Q1 w3.heap.size Q2) 8 rfl (by kernel_rfl) (H4.out.below (below_drew _)) (fun hHeld => ?_)
  refine take_at 0 51 (.agg (poolA Q1)) rfl rfl (by kernel_rfl) (by kernel_rfl) (by kernel_rfl) (fun _ _ _ h => h) (yields_pool (by rfl) 31 (.tmp 9) rfl (w1.heap.size) rfl 31 (Q1) _ (fun W h => h.n1) Tryd.underlying31 rfl pool_info) hHeld ?_
  simp only [put_laws]
  refine take_at 1 52 (.agg (poolA Q2)) rfl rfl (by kernel_rfl) (by kernel_rfl) (by kernel_rfl) (fun _ _ _ h => h) (yields_pool (by rfl) 38 (.tmp 11) rfl (w3.heap.size) rfl 38 (Q2) _ (fun W h => h.n2) Tryd.underlying38 rfl rpool_info) hHeld ?_
  simp only [put_laws]
  refine take_at 2 53 (.int .i64 E1) rfl rfl (by kernel_rfl) (by kernel_rfl) (by kernel_rfl) (fun _ _ _ h => h) (Or.inl ⟨by rfl, by intro W hW; clear hW; go_simp⟩) hHeld ?_
  simp only [put_laws]
  refine take_at 3 54 (.int .i64 E2) rfl rfl (by kernel_rfl) (by kernel_rfl) (by kernel_rfl) (fun _ _ _ h => h) (Or.inl ⟨by rfl, by intro W hW; clear hW; go_simp⟩) hHeld ?_
  simp only [put_laws]
  refine take_at 4 55 (.bool (E1 == E2)) rfl rfl (by kernel_rfl) (by kernel_rfl) (by kernel_rfl) (fun _ _ _ h => h) (Or.inl ⟨by rfl, by intro W hW; clear hW; go_simp⟩) hHeld ?_
  simp only [put_laws]
  refine wpAnyH_ready (rs := [5]) (by kernel_rfl) (by simp) ?_
  refine AllReadyH.cons rfl (fun K hK => ?_) AllReadyH.nil
  obtain ⟨old, hold⟩ := hHeld.st.r0
  refine step_store_pool (by rfl) 31 (.tmp 6) (.tmp 51) (by rfl) (w.heap.size + 3) old Q1 31 (by rfl) (by rfl) hold pool_info ?_
  have hR0 := poolAt_put (q := Q1) hold
  have hHeld := hHeld.put0 Q1
  refine hK.out _ _ hHeld (fun hHeld => ?_)
  clear hK K hold
  refine wpAnyH_ready (rs := [6]) (by kernel_rfl) (by simp) ?_
  refine AllReadyH.cons rfl (fun K hK => ?_) AllReadyH.nil
  obtain ⟨old, hold⟩ := hHeld.st.r1
  refine step_store_pool (by rfl) 38 (.tmp 7) (.tmp 52) (by rfl) (w.heap.size + 4) old Q2 38 (by rfl) (by rfl) hold rpool_info ?_
  have hR0 := hR0.setRow (k := w.heap.size + 4) (poolA Q2) (by omega)
  have hR1 := poolAt_put (q := Q2) hold
  have hHeld := hHeld.put1 Q2
  refine hK.out _ _ hHeld (fun hHeld => ?_)
  clear hK K hold
  refine take_at 7 8 (.bool (E1 == E2)) rfl rfl (by kernel_rfl) (by kernel_rfl) (by kernel_rfl) (fun _ _ _ h => h) (Or.inl ⟨by rfl, by intro W hW; clear hW; go_simp⟩) hHeld ?_
  simp only [put_laws]
  refine wpAnyH_done (by kernel_rfl) ?_ _
  refine NoPanic.normal ?_
  go_wp2
  have hb := hHeld.st.bel
  refine bodyPost_ret (results_pools rfl _ _ (w.heap.size + 3) (w.heap.size + 4) 31 38 Q1 Q2 _ _ (.bool (E1 == E2)) rfl rfl rfl hR0 hR1 Tryd.underlying31 rfl pool_info Tryd.underlying38 rfl rpool_info) rfl ?_
  exact ⟨_, by rw [HQ1.out, HQ2.out], (fun h => by subst h; rw [← HE1.out, ← HE2.out]; simp), hb⟩
set_option maxHeartbeats 2000000 in
set_option maxRecDepth 100000 in
theorem does_edge3 (p m : Pl) (x : Po.Act) (w : World) (hA : DAsk p m x w) (hr : (x.kind : Int).tmod 6 = 3) :
    Calls Tryd.prog 13 #[.agg (poolA p), .agg (poolA m), .agg (actA x)] w (DPost p m ((Po.edge p x.a x.b).1) ((Po.edge m x.a x.b).1) w) := by
  have hz1 := (zero_of_info zero_pool_info).1
  have hz2 := (zero_of_info zero_rpool_info).1
  have H0 := Lib.hid (dst_first p m x w)
  have HA := Lib.hid hA
  have hk := hA.k
  have hc := H0.out.kind
  have hfa := H0.out.fa
  have hfb := H0.out.fb
  unfold dWorld at hc hfa hfb H0
  clear hA
  go_enter Tryd.func13, Tryd.ntmps13
  go_wp2_with (refine load_pool rfl 31 (.tmp 3) rfl w.heap.size p 31 rfl _ H0.out.po Tryd.underlying31 rfl pool_info ?_)
  refine (edge_any p x.a x.b _ HA.out.okp HA.out.a HA.out.b (tab_keep HA.out.t H0.out.bel)).mono ?_
  rintro e w1 ⟨rfl, hb1⟩
  generalize hq1 : (Po.edge p x.a x.b).1 = Q1
  generalize he1 : (Po.edge p x.a x.b).2 = E1
  have HQ1 := Lib.hid hq1
  have HE1 := Lib.hid he1
  clear hq1 he1
  have H1 := Lib.hid (H0.out.below hb1)
  have hfa1 := H1.out.fa
  have hfb1 := H1.out.fb
  clear hb1 H0 hc hfa hfb
  go_wp2_with (first
    | (refine wpList_letP rfl 31 (.tmp 9) (.tmp 40) rfl rfl w1 Q1 rfl rfl rfl pool_info ?_; intro w2 n2 hb2; have N2 := Lib.hid n2; have H2 := Lib.hid (H1.out.below hb2); have hfa2 := H2.out.fa; have hfb2 := H2.out.fb; have L2 := Lib.hid (show w.heap.size + 5 ≤ w1.heap.size from H1.out.size5); clear n2 hb2)
    | (refine load_pool rfl 38 (.tmp 4) rfl (w.heap.size + 1) m 38 rfl _ H2.out.pm Tryd.underlying38 rfl rpool_info ?_))
  refine (redge_any m x.a x.b _ HA.out.okm HA.out.a HA.out.b (tab_keep HA.out.t H2.out.bel)).mono ?_
  rintro e w3 ⟨rfl, hb3⟩
  generalize hq2 : (Po.edge m x.a x.b).1 = Q2
  generalize he2 : (Po.edge m x.a x.b).2 = E2
  have HQ2 := Lib.hid hq2
  have HE2 := Lib.hid he2
  clear hq2 he2
  have H3 := Lib.hid (H2.out.below hb3)
  have N3 := Lib.hid (N2.out.below hb3)
  clear hb3 H1 H2 N2 hfa1 hfb1 hfa2 hfb2
  go_wp2_with (refine wpList_letP rfl 38 (.tmp 11) (.tmp 49) rfl rfl w3 Q2 rfl rfl rfl rpool_info ?_; intro w4 n4 hb4; have H4 := Lib.hid (show DEnd p m x w w1.heap.size Q1 w3.heap.size Q2 w4 from ⟨H3.out.below hb4, N3.out.below hb4, n4, L2.out, H3.out.size5⟩); clear n4 hb4)
  refine wp_region_noPanic ?_
  refine region_start (S := DEnd p m x w w1.heap.size Q1 w3.heap.size Q2) 8 rfl (by kernel_rfl) (H4.out.below (below_drew _)) (fun hHeld => ?_)
  refine take_at 0 51 (.agg (poolA Q1)) rfl rfl (by kernel_rfl) (by kernel_rfl) (by kernel_rfl) (fun _ _ _ h => h) (yields_pool (by rfl) 31 (.tmp 9) rfl (w1.heap.size) rfl 31 (Q1) _ (fun W h => h.n1) Tryd.underlying31 rfl pool_info) hHeld ?_
  simp only [put_laws]
  refine take_at 1 52 (.agg (poolA Q2)) rfl rfl (by kernel_rfl) (by kernel_rfl) (by kernel_rfl) (fun _ _ _ h => h) (yields_pool (by rfl) 38 (.tmp 11) rfl (w3.heap.size) rfl 38 (Q2) _ (fun W h => h.n2) Tryd.underlying38 rfl rpool_info) hHeld ?_
  simp only [put_laws]
  refine take_at 2 53 (.int .i64 E1) rfl rfl (by kernel_rfl) (by kernel_rfl) (by kernel_rfl) (fun _ _ _ h => h) (Or.inl ⟨by rfl, by intro W hW; clear hW; go_simp⟩) hHeld ?_
  simp only [put_laws]
  refine take_at 3 54 (.int .i64 E2) rfl rfl (by kernel_rfl) (by kernel_rfl) (by kernel_rfl) (fun _ _ _ h => h) (Or.inl ⟨by rfl, by intro W hW; clear hW; go_simp⟩) hHeld ?_
  simp only [put_laws]
  refine take_at 4 55 (.bool (E1 == E2)) rfl rfl (by kernel_rfl) (by kernel_rfl) (by kernel_rfl) (fun _ _ _ h => h) (Or.inl ⟨by rfl, by intro W hW; clear hW; go_simp⟩) hHeld ?_
  simp only [put_laws]
  refine wpAnyH_ready (rs := [5]) (by kernel_rfl) (by simp) ?_
  refine AllReadyH.cons rfl (fun K hK => ?_) AllReadyH.nil
  obtain ⟨old, hold⟩ := hHeld.st.r0
  refine step_store_pool (by rfl) 31 (.tmp 6) (.tmp 51) (by rfl) (w.heap.size + 3) old Q1 31 (by rfl) (by rfl) hold pool_info ?_
  have hR0 := poolAt_put (q := Q1) hold
  have hHeld := hHeld.put0 Q1
  refine hK.out _ _ hHeld (fun hHeld => ?_)
  clear hK K hold
  refine wpAnyH_ready (rs := [6]) (by kernel_rfl) (by simp) ?_
  refine AllReadyH.cons rfl (fun K hK => ?_) AllReadyH.nil
  obtain ⟨old, hold⟩ := hHeld.st.r1
  refine step_store_pool (by rfl) 38 (.tmp 7) (.tmp 52) (by rfl) (w.heap.size + 4) old Q2 38 (by rfl) (by rfl) hold rpool_info ?_
  have hR0 := hR0.setRow (k := w.heap.size + 4) (poolA Q2) (by omega)
  have hR1 := poolAt_put (q := Q2) hold
  have hHeld := hHeld.put1 Q2
  refine hK.out _ _ hHeld (fun hHeld => ?_)
  clear hK K hold
  refine take_at 7 8 (.bool (E1 == E2)) rfl rfl (by kernel_rfl) (by kernel_rfl) (by kernel_rfl) (fun _ _ _ h => h) (Or.inl ⟨by rfl, by intro W hW; clear hW; go_simp⟩) hHeld ?_
  simp only [put_laws]
  refine wpAnyH_done (by kernel_rfl) ?_ _
  refine NoPanic.normal ?_
  go_wp2
  have hb := hHeld.st.bel
  refine bodyPost_ret (results_pools rfl _ _ (w.heap.size + 3) (w.heap.size + 4) 31 38 Q1 Q2 _ _ (.bool (E1 == E2)) rfl rfl rfl hR0 hR1 Tryd.underlying31 rfl pool_info Tryd.underlying38 rfl rpool_info) rfl ?_
  exact ⟨_, by rw [HQ1.out, HQ2.out], (fun h => by subst h; rw [← HE1.out, ← HE2.out]; simp), hb⟩
set_option maxHeartbeats 2000000 in
set_option maxRecDepth 100000 in
theorem does_end (p m : Pl) (x : Po.Act) (w : World) (hA : DAsk p m x w) (hr : (x.kind : Int).tmod 6 = 4) :
    Calls Tryd.prog 13 #[.agg (poolA p), .agg (poolA m), .agg (actA x)] w (DPost p m ((Po.endP p x.a).1) ((Po.endP m x.a).1) w) := by
  have hz1 := (zero_of_info zero_pool_info).1
  have hz2 := (zero_of_info zero_rpool_info).1
  have H0 := Lib.hid (dst_first p m x w)
  have HA := Lib.hid hA
  have hk := hA.k
  have hc := H0.out.kind
  have hfa := H0.out.fa
  have hfb := H0.out.fb
  unfold dWorld at hc hfa hfb H0
  clear hA
  go_enter Tryd.func13, Tryd.ntmps13
  go_wp2_with (refine load_pool rfl 31 (.tmp 3) rfl w.heap.size p 31 rfl _ H0.out.po Tryd.underlying31 rfl pool_info ?_)
  refine (end_any p x.a _ HA.out.okp HA.out.a.1 HA.out.a.2).mono ?_
  rintro e w1 ⟨rfl, hb1⟩
  generalize hq1 : (Po.endP p x.a).1 = Q1
  generalize he1 : (Po.endP p x.a).2 = E1
  have HQ1 := Lib.hid hq1
  have HE1 := Lib.hid he1
  clear hq1 he1
  have H1 := Lib.hid (H0.out.below hb1)
  have hfa1 := H1.out.fa
  have hfb1 := H1.out.fb
  clear hb1 H0 hc hfa hfb
  go_wp2_with (first
    | (refine wpList_letP rfl 31 (.tmp 13) (.tmp 63) rfl rfl w1 Q1 rfl rfl rfl pool_info ?_; intro w2 n2 hb2; have N2 := Lib.hid n2; have H2 := Lib.hid (H1.out.below hb2); have hfa2 := H2.out.fa; have hfb2 := H2.out.fb; have L2 := Lib.hid (show w.heap.size + 5 ≤ w1.heap.size from H1.out.size5); clear n2 hb2)
    | (refine load_pool rfl 38 (.tmp 4) rfl (w.heap.size + 1) m 38 rfl _ H2.out.pm Tryd.underlying38 rfl rpool_info ?_))
  refine (rend_any m x.a _ HA.out.okm HA.out.a.1 HA.out.a.2).mono ?_
  rintro e w3 ⟨rfl, hb3⟩
  generalize hq2 : (Po.endP m x.a).1 = Q2
  generalize he2 : (Po.endP m x.a).2 = E2
  have HQ2 := Lib.hid hq2
  have HE2 := Lib.hid he2
  clear hq2 he2
  have H3 := Lib.hid (H2.out.below hb3)
  have N3 := Lib.hid (N2.out.below hb3)
  clear hb3 H1 H2 N2 hfa1 hfb1 hfa2 hfb2
  go_wp2_with (refine wpList_letP rfl 38 (.tmp 15) (.tmp 70) rfl rfl w3 Q2 rfl rfl rfl rpool_info ?_; intro w4 n4 hb4; have H4 := Lib.hid (show DEnd p m x w w1.heap.size Q1 w3.heap.size Q2 w4 from ⟨H3.out.below hb4, N3.out.below hb4, n4, L2.out, H3.out.size5⟩); clear n4 hb4)
  refine wp_region_noPanic ?_
  refine region_start (S := DEnd p m x w w1.heap.size Q1 w3.heap.size Q2) 8 rfl (by kernel_rfl) (H4.out.below (below_drew _)) (fun hHeld => ?_)
  refine take_at 0 72 (.agg (poolA Q1)) rfl rfl (by kernel_rfl) (by kernel_rfl) (by kernel_rfl) (fun _ _ _ h => h) (yields_pool (by rfl) 31 (.tmp 13) rfl (w1.heap.size) rfl 31 (Q1) _ (fun W h => h.n1) Tryd.underlying31 rfl pool_info) hHeld ?_
  simp only [put_laws]
  refine take_at 1 73 (.agg (poolA Q2)) rfl rfl (by kernel_rfl) (by kernel_rfl) (by kernel_rfl) (fun _ _ _ h => h) (yields_pool (by rfl) 38 (.tmp 15) rfl (w3.heap.size) rfl 38 (Q2) _ (fun W h => h.n2) Tryd.underlying38 rfl rpool_info) hHeld ?_
  simp only [put_laws]
  refine take_at 2 74 (.int .i64 E1) rfl rfl (by kernel_rfl) (by kernel_rfl) (by kernel_rfl) (fun _ _ _ h => h) (Or.inl ⟨by rfl, by intro W hW; clear hW; go_simp⟩) hHeld ?_
  simp only [put_laws]
  refine take_at 3 75 (.int .i64 E2) rfl rfl (by kernel_rfl) (by kernel_rfl) (by kernel_rfl) (fun _ _ _ h => h) (Or.inl ⟨by rfl, by intro W hW; clear hW; go_simp⟩) hHeld ?_
  simp only [put_laws]
  refine take_at 4 76 (.bool (E1 == E2)) rfl rfl (by kernel_rfl) (by kernel_rfl) (by kernel_rfl) (fun _ _ _ h => h) (Or.inl ⟨by rfl, by intro W hW; clear hW; go_simp⟩) hHeld ?_
  simp only [put_laws]
  refine wpAnyH_ready (rs := [5]) (by kernel_rfl) (by simp) ?_
  refine AllReadyH.cons rfl (fun K hK => ?_) AllReadyH.nil
  obtain ⟨old, hold⟩ := hHeld.st.r0
  refine step_store_pool (by rfl) 31 (.tmp 6) (.tmp 72) (by rfl) (w.heap.size + 3) old Q1 31 (by rfl) (by rfl) hold pool_info ?_
  have hR0 := poolAt_put (q := Q1) hold
  have hHeld := hHeld.put0 Q1
  refine hK.out _ _ hHeld (fun hHeld => ?_)
  clear hK K hold
  refine wpAnyH_ready (rs := [6]) (by kernel_rfl) (by simp) ?_
  refine AllReadyH.cons rfl (fun K hK => ?_) AllReadyH.nil
  obtain ⟨old, hold⟩ := hHeld.st.r1
  refine step_store_pool (by rfl) 38 (.tmp 7) (.tmp 73) (by rfl) (w.heap.size + 4) old Q2 38 (by rfl) (by rfl) hold rpool_info ?_
  have hR0 := hR0.setRow (k := w.heap.size + 4) (poolA Q2) (by omega)
  have hR1 := poolAt_put (q := Q2) hold
  have hHeld := hHeld.put1 Q2
  refine hK.out _ _ hHeld (fun hHeld => ?_)
  clear hK K hold
  refine take_at 7 8 (.bool (E1 == E2)) rfl rfl (by kernel_rfl) (by kernel_rfl) (by kernel_rfl) (fun _ _ _ h => h) (Or.inl ⟨by rfl, by intro W hW; clear hW; go_simp⟩) hHeld ?_
  simp only [put_laws]
  refine wpAnyH_done (by kernel_rfl) ?_ _
  refine NoPanic.normal ?_
  go_wp2
  have hb := hHeld.st.bel
  refine bodyPost_ret (results_pools rfl _ _ (w.heap.size + 3) (w.heap.size + 4) 31 38 Q1 Q2 _ _ (.bool (E1 == E2)) rfl rfl rfl hR0 hR1 Tryd.underlying31 rfl pool_info Tryd.underlying38 rfl rpool_info) rfl ?_
  exact ⟨_, by rw [HQ1.out, HQ2.out], (fun h => by subst h; rw [← HE1.out, ← HE2.out]; simp), hb⟩
theorem coll_zero : (Po.collect zeroP).2 = [] := by rw [Po.collect_none (by rfl)]
theorem coll_i64 {p : Pl} (hp : p.Ok) : ∀ z ∈ (Po.collect p).2, i64s z := by
  refine Po.coll_ind (fun p r => p.Ok → ∀ z ∈ r.2, i64s z) (fun _ _ _ z hz => by simp at hz) ?_ p hp.done hp
  intro p s r _ hn ih hp z hz
  rw [List.mem_cons] at hz
  rcases hz with rfl | hz
  · exact hp.ids s (Po.next_spec hn).1
  · exact ih (going_ok hp s) z hz
set_option maxHeartbeats 1000000 in
set_option maxRecDepth 100000 in
theorem same_len (A B : Option Addr) (n k c d : Nat) (w : World) (h : n ≠ k) :
    Calls Tryd.prog 35 #[.slice A n c, .slice B k d] w fun e w' => e = .returned (.bool false) ∧ Below w.heap.size w w' := by
  have hne : ((n : Int) != (k : Int)) = true := by simp; omega
  go_enter Tryd.func35, Tryd.ntmps35
  go_wp2
  go_ret
  exact ⟨rfl, Below.refl _ _⟩
theorem same_coll {p m : Pl} (hp : p.Ok) (hc : m = p ∨ m = zeroP) {W : World} {b1 b2 : Nat} {v1 v2 : Value} (h1 : OwnI W b1 v1 (Po.collect p).2) (h2 : OwnI W b2 v2 (Po.collect m).2) :
    Calls Tryd.prog 35 #[v1, v2] W fun e w' => ∃ b, e = .returned (.bool b) ∧ (p = m → b = true) ∧ Below W.heap.size W w' := by
  rcases hc with rfl | rfl
  · exact (sameI (coll_i64 hp) h1 h2).mono fun e w' h => ⟨true, h.1, fun _ => rfl, h.2⟩
  · rw [coll_zero] at h2
    by_cases hl : (Po.collect p).2 = []
    · rw [hl] at h1
      exact (sameI (fun z hz => by simp at hz) h1 h2).mono fun e w' h => ⟨true, h.1, fun _ => rfl, h.2⟩
    · obtain ⟨A, c, rfl, _, _⟩ := h1.shape
      obtain ⟨B, d, rfl, _, _⟩ := h2.shape
      refine (same_len A B _ _ c d W (fun e => hl (List.eq_nil_of_length_eq_zero e))).mono fun e w' h => ⟨false, h.1, fun h' => ?_, h.2⟩
      subst h'
      exact absurd coll_zero hl
set_option maxHeartbeats 2000000 in
set_option maxRecDepth 100000 in
theorem does_coll (p m : Pl) (x : Po.Act) (w : World) (hA : DAsk p m x w) (hr : (x.kind : Int).tmod 6 = 5) :
    Calls Tryd.prog 13 #[.agg (poolA p), .agg (poolA m), .agg (actA x)] w (DPost p m ((Po.collect p).1) ((Po.collect m).1) w) := by
  have hz1 := (zero_of_info zero_pool_info).1
  have hz2 := (zero_of_info zero_rpool_info).1
  have H0 := Lib.hid (dst_first p m x w)
  have HA := Lib.hid hA
  have hk := hA.k
  have hc := H0.out.kind
  have hfa := H0.out.fa
  have hfb := H0.out.fb
  unfold dWorld at hc hfa hfb H0
  clear hA
  go_enter Tryd.func13, Tryd.ntmps13
  go_wp2_with (refine load_pool rfl 31 (.tmp 3) rfl w.heap.size p 31 rfl _ H0.out.po Tryd.underlying31 rfl pool_info ?_)
  refine (collect_any p _ HA.out.okp).mono ?_
  rintro e w1 ⟨y1, rfl, ho1, hb1⟩
  have O1 := Lib.hid (ho1.mono (base' := w.heap.size + 5) (by have := H0.out.size5; omega))
  generalize hq1 : (Po.collect p).1 = Q1
  have HQ1 := Lib.hid hq1
  clear hq1 ho1
  have H1 := Lib.hid (H0.out.below hb1)
  have hfa1 := H1.out.fa
  have hfb1 := H1.out.fb
  clear hb1 H0 hc hfa hfb
  go_wp2_with (first
    | (refine wpList_letP rfl 31 (.tmp 17) (.tmp 82) rfl rfl w1 Q1 rfl rfl rfl pool_info ?_; intro w2 n2 hb2; have N2 := Lib.hid n2; have H2 := Lib.hid (H1.out.below hb2); have hfa2 := H2.out.fa; have hfb2 := H2.out.fb; have L2 := Lib.hid (show w.heap.size + 5 ≤ w1.heap.size from H1.out.size5); have O2 := Lib.hid (O1.out.below hb2 (Nat.le_refl _)); clear n2 hb2)
    | (refine load_pool rfl 38 (.tmp 4) rfl (w.heap.size + 1) m 38 rfl _ H2.out.pm Tryd.underlying38 rfl rpool_info ?_))
  refine (rcollect_any m _ HA.out.okm).mono ?_
  rintro e w3 ⟨y2, rfl, ho3, hb3⟩
  have O3 := Lib.hid (ho3.mono (base' := w.heap.size + 5) (by have := H2.out.size5; omega))
  generalize hq2 : (Po.collect m).1 = Q2
  have HQ2 := Lib.hid hq2
  clear hq2 ho3
  have H3 := Lib.hid (H2.out.below hb3)
  have N3 := Lib.hid (N2.out.below hb3)
  have O4 := Lib.hid (O2.out.below hb3 (Nat.le_refl _))
  clear hb3 H1 H2 N2 hfa1 hfb1 hfa2 hfb2
  go_wp2_with (refine wpList_letP rfl 38 (.tmp 19) (.tmp 87) rfl rfl w3 Q2 rfl rfl rfl rpool_info ?_; intro w4 n4 hb4; have H4 := Lib.hid (show DEndC p m x w w1.heap.size Q1 w3.heap.size Q2 y1 (Po.collect p).2 y2 (Po.collect m).2 w4 from ⟨⟨H3.out.below hb4, N3.out.below hb4, n4, L2.out, H3.out.size5⟩, O4.out.below hb4 (Nat.le_refl _), O3.out.below hb4 (Nat.le_refl _)⟩); clear n4 hb4)
  refine wp_region_noPanic ?_
  refine region_start (S := DEndC p m x w w1.heap.size Q1 w3.heap.size Q2 y1 (Po.collect p).2 y2 (Po.collect m).2) 8 rfl (by kernel_rfl) (H4.out.below (below_drew _)) (fun hHeld => ?_)
  refine take_at 0 89 (.agg (poolA Q1)) rfl rfl (by kernel_rfl) (by kernel_rfl) (by kernel_rfl) (fun _ _ _ h => h) (yields_pool (by rfl) 31 (.tmp 17) rfl (w1.heap.size) rfl 31 (Q1) _ (fun W h => h.e.n1) Tryd.underlying31 rfl pool_info) hHeld ?_
  simp only [put_laws]
  refine take_at 1 90 (.agg (poolA Q2)) rfl rfl (by kernel_rfl) (by kernel_rfl) (by kernel_rfl) (fun _ _ _ h => h) (yields_pool (by rfl) 38 (.tmp 19) rfl (w3.heap.size) rfl 38 (Q2) _ (fun W h => h.e.n2) Tryd.underlying38 rfl rpool_info) hHeld ?_
  simp only [put_laws]
  refine take_at 2 91 (y1) rfl rfl (by kernel_rfl) (by kernel_rfl) (by kernel_rfl) (fun _ _ _ h => h) (Or.inl ⟨by rfl, by intro W hW; clear hW; go_simp⟩) hHeld ?_
  simp only [put_laws]
  refine take_at 3 92 (y2) rfl rfl (by kernel_rfl) (by kernel_rfl) (by kernel_rfl) (fun _ _ _ h => h) (Or.inl ⟨by rfl, by intro W hW; clear hW; go_simp⟩) hHeld ?_
  simp only [put_laws]
  refine wpAnyH_ready (rs := [4]) (by kernel_rfl) (by simp) ?_
  refine AllReadyH.cons rfl (fun K hK => ?_) AllReadyH.nil
  go_simp
  refine (same_coll HA.out.okp HA.out.cmp hHeld.r1 hHeld.r2).mono ?_
  rintro e w6 ⟨b, rfl, hbt, hb6⟩
  try go_simp
  have hHeld := hHeld.below hb6
  refine hK.out _ _ hHeld (fun hHeld => ?_)
  clear hK K
  refine wpAnyH_ready (rs := [5]) (by kernel_rfl) (by simp) ?_
  refine AllReadyH.cons rfl (fun K hK => ?_) AllReadyH.nil
  obtain ⟨old, hold⟩ := hHeld.e.st.r0
  refine step_store_pool (by rfl) 31 (.tmp 6) (.tmp 89) (by rfl) (w.heap.size + 3) old Q1 31 (by rfl) (by rfl) hold pool_info ?_
  have hR0 := poolAt_put (q := Q1) hold
  have hHeld := hHeld.put0 Q1
  refine hK.out _ _ hHeld (fun hHeld => ?_)
  clear hK K hold
  refine wpAnyH_ready (rs := [6]) (by kernel_rfl) (by simp) ?_
  refine AllReadyH.cons rfl (fun K hK => ?_) AllReadyH.nil
  obtain ⟨old, hold⟩ := hHeld.e.st.r1
  refine step_store_pool (by rfl) 38 (.tmp 7) (.tmp 90) (by rfl) (w.heap.size + 4) old Q2 38 (by rfl) (by rfl) hold rpool_info ?_
  have hR0 := hR0.setRow (k := w.heap.size + 4) (poolA Q2) (by omega)
  have hR1 := poolAt_put (q := Q2) hold
  have hHeld := hHeld.put1 Q2
  refine hK.out _ _ hHeld (fun hHeld => ?_)
  clear hK K hold
  refine take_at 7 8 (.bool b) rfl rfl (by kernel_rfl) (by kernel_rfl) (by kernel_rfl) (fun _ _ _ h => h) (Or.inl ⟨by rfl, by intro W hW; clear hW; go_simp⟩) hHeld ?_
  simp only [put_laws]
  refine wpAnyH_done (by kernel_rfl) ?_ _
  refine NoPanic.normal ?_
  go_wp2
  have hb := hHeld.e.st.bel
  refine bodyPost_ret (results_pools rfl _ _ (w.heap.size + 3) (w.heap.size + 4) 31 38 Q1 Q2 _ _ (.bool b) rfl rfl rfl hR0 hR1 Tryd.underlying31 rfl pool_info Tryd.underlying38 rfl rpool_info) rfl ?_
  exact ⟨_, by rw [HQ1.out, HQ2.out], hbt, hb⟩
set_option maxHeartbeats 2000000 in
set_option maxRecDepth 100000 in
theorem does_begin0 (p m : Pl) (x : Po.Act) (w : World) (hA : DAsk p m x w) (hr : (x.kind : Int).tmod 6 = 0) :
    Calls Tryd.prog 13 #[.agg (poolA p), .agg (poolA m), .agg (actA x)] w (DPost p m ((Po.begin p).1) ((Po.begin m).1) w) := by
  have hz1 := (zero_of_info zero_pool_info).1
  have hz2 := (zero_of_info zero_rpool_info).1
  have H0 := Lib.hid (dst_first p m x w)
  have HA := Lib.hid hA
  have hk := hA.k
  have hc := H0.out.kind
  have hfa := H0.out.fa
  have hfb := H0.out.fb
  unfold dWorld at hc hfa hfb H0
  clear hA
  go_enter Tryd.func13, Tryd.ntmps13
  go_wp2_with (refine load_pool rfl 31 (.tmp 3) rfl w.heap.size p 31 rfl _ H0.out.po Tryd.underlying31 rfl pool_info ?_)
  refine (begin_any p _ HA.out.okp HA.out.pc (tab_keep HA.out.t H0.out.bel)).mono ?_
  rintro e w1 ⟨rfl, hb1⟩
  generalize hq1 : (Po.begin p).1 = Q1
  generalize hs1 : (Po.begin p).2.1 = S1
  generalize he1 : (Po.begin p).2.2 = E1
  have HQ1 := Lib.hid hq1
  have HS1 := Lib.hid hs1
  have HE1 := Lib.hid he1
  clear hq1 he1 hs1
  have H1 := Lib.hid (H0.out.below hb1)
  have hfa1 := H1.out.fa
  have hfb1 := H1.out.fb
  clear hb1 H0 hc hfa hfb
  go_wp2_with (first
    | (refine wpList_letP rfl 31 (.tmp 21) (.tmp 97) rfl rfl w1 Q1 rfl rfl rfl pool_info ?_; intro w2 n2 hb2; have N2 := Lib.hid n2; have H2 := Lib.hid (H1.out.below hb2); have hfa2 := H2.out.fa; have hfb2 := H2.out.fb; have L2 := Lib.hid (show w.heap.size + 5 ≤ w1.heap.size from H1.out.size5); clear n2 hb2)
    | (refine load_pool rfl 38 (.tmp 4) rfl (w.heap.size + 1) m 38 rfl _ H2.out.pm Tryd.underlying38 rfl rpool_info ?_))
  refine (rbegin_any m _ HA.out.okm HA.out.ms HA.out.md HA.out.mc (tab_keep HA.out.t H2.out.bel)).mono ?_
  rintro e w3 ⟨rfl, hb3⟩
  generalize hq2 : (Po.begin m).1 = Q2
  generalize hs2 : (Po.begin m).2.1 = S2
  generalize he2 : (Po.begin m).2.2 = E2
  have HQ2 := Lib.hid hq2
  have HS2 := Lib.hid hs2
  have HE2 := Lib.hid he2
  clear hq2 he2 hs2
  have H3 := Lib.hid (H2.out.below hb3)
  have N3 := Lib.hid (N2.out.below hb3)
  clear hb3 H1 H2 N2 hfa1 hfb1 hfa2 hfb2
  go_wp2_with (refine wpList_letP rfl 38 (.tmp 24) (.tmp 103) rfl rfl w3 Q2 rfl rfl rfl rpool_info ?_; intro w4 n4 hb4; have H4 := Lib.hid (show DEnd p m x w w1.heap.size Q1 w3.heap.size Q2 w4 from ⟨H3.out.below hb4, N3.out.below hb4, n4, L2.out, H3.out.size5⟩); clear n4 hb4)
  by_cases hS : S1 = S2
  · subst hS
    refine wp_region_noPanic ?_
    refine region_start (S := DEnd p m x w w1.heap.size Q1 w3.heap.size Q2) 13 rfl (by kernel_rfl) (H4.out.below (below_drew _)) (fun hHeld => ?_)
    refine take_at 0 106 (.agg (poolA Q1)) rfl rfl (by kernel_rfl) (by kernel_rfl) (by kernel_rfl) (fun _ _ _ h => h) (yields_pool (by rfl) 31 (.tmp 21) rfl (w1.heap.size) rfl 31 (Q1) _ (fun W h => h.n1) Tryd.underlying31 rfl pool_info) hHeld ?_
    simp only [put_laws]
    refine take_at 1 107 (.agg (poolA Q2)) rfl rfl (by kernel_rfl) (by kernel_rfl) (by kernel_rfl) (fun _ _ _ h => h) (yields_pool (by rfl) 38 (.tmp 24) rfl (w3.heap.size) rfl 38 (Q2) _ (fun W h => h.n2) Tryd.underlying38 rfl rpool_info) hHeld ?_
    simp only [put_laws]
    refine take_at 2 108 (.int .i64 S1) rfl rfl (by kernel_rfl) (by kernel_rfl) (by kernel_rfl) (fun _ _ _ h => h) (Or.inl ⟨by rfl, by intro W hW; clear hW; go_simp⟩) hHeld ?_
    simp only [put_laws]
    refine take_at 3 109 (.int .i64 S1) rfl rfl (by kernel_rfl) (by kernel_rfl) (by kernel_rfl) (fun _ _ _ h => h) (Or.inl ⟨by rfl, by intro W hW; clear hW; go_simp⟩) hHeld ?_
    simp only [put_laws]
    refine take_at 4 110 (.bool true) rfl rfl (by kernel_rfl) (by kernel_rfl) (by kernel_rfl) (fun _ _ _ h => h) (Or.inl ⟨by rfl, by intro W hW; clear hW; go_simp⟩) hHeld ?_
    simp only [put_laws]
    refine take_at 5 111 (.bool true) rfl rfl (by kernel_rfl) (by kernel_rfl) (by kernel_rfl) (fun _ _ _ h => h) (Or.inl ⟨by rfl, by intro W hW; clear hW; go_simp⟩) hHeld ?_
    simp only [put_laws]
    refine take_at 6 112 (.int .i64 E1) rfl rfl (by kernel_rfl) (by kernel_rfl) (by kernel_rfl) (fun _ _ _ h => h) (Or.inl ⟨by rfl, by intro W hW; clear hW; go_simp⟩) hHeld ?_
    simp only [put_laws]
    refine take_at 7 113 (.int .i64 E2) rfl rfl (by kernel_rfl) (by kernel_rfl) (by kernel_rfl) (fun _ _ _ h => h) (Or.inl ⟨by rfl, by intro W hW; clear hW; go_simp⟩) hHeld ?_
    simp only [put_laws]
    refine take_at 8 114 (.bool (E1 == E2)) rfl rfl (by kernel_rfl) (by kernel_rfl) (by kernel_rfl) (fun _ _ _ h => h) (Or.inl ⟨by rfl, by intro W hW; clear hW; go_simp⟩) hHeld ?_
    simp only [put_laws]
    refine take_at 9 115 (.bool (E1 == E2)) rfl rfl (by kernel_rfl) (by kernel_rfl) (by kernel_rfl) (fun _ _ _ h => h) (Or.inl ⟨by rfl, by intro W hW; clear hW; go_simp⟩) hHeld ?_
    simp only [put_laws]
    refine wpAnyH_ready (rs := [10]) (by kernel_rfl) (by simp) ?_
    refine AllReadyH.cons rfl (fun K hK => ?_) AllReadyH.nil
    obtain ⟨old, hold⟩ := hHeld.st.r0
    refine step_store_pool (by rfl) 31 (.tmp 6) (.tmp 106) (by rfl) (w.heap.size + 3) old Q1 31 (by rfl) (by rfl) hold pool_info ?_
    have hR0 := poolAt_put (q := Q1) hold
    have hHeld := hHeld.put0 Q1
    refine hK.out _ _ hHeld (fun hHeld => ?_)
    clear hK K hold
    refine wpAnyH_ready (rs := [11]) (by kernel_rfl) (by simp) ?_
    refine AllReadyH.cons rfl (fun K hK => ?_) AllReadyH.nil
    obtain ⟨old, hold⟩ := hHeld.st.r1
    refine step_store_pool (by rfl) 38 (.tmp 7) (.tmp 107) (by rfl) (w.heap.size + 4) old Q2 38 (by rfl) (by rfl) hold rpool_info ?_
    have hR0 := hR0.setRow (k := w.heap.size + 4) (poolA Q2) (by omega)
    have hR1 := poolAt_put (q := Q2) hold
    have hHeld := hHeld.put1 Q2
    refine hK.out _ _ hHeld (fun hHeld => ?_)
    clear hK K hold
    refine take_at 12 8 (.bool (E1 == E2)) rfl rfl (by kernel_rfl) (by kernel_rfl) (by kernel_rfl) (fun _ _ _ h => h) (Or.inl ⟨by rfl, by intro W hW; clear hW; go_simp⟩) hHeld ?_
    simp only [put_laws]
    refine wpAnyH_done (by kernel_rfl) ?_ _
    refine NoPanic.normal ?_
    go_wp2
    have hb := hHeld.st.bel
    refine bodyPost_ret (results_pools rfl _ _ (w.heap.size + 3) (w.heap.size + 4) 31 38 Q1 Q2 _ _ (.bool (E1 == E2)) rfl rfl rfl hR0 hR1 Tryd.underlying31 rfl pool_info Tryd.underlying38 rfl rpool_info) rfl ?_
    exact ⟨_, by rw [HQ1.out, HQ2.out], (fun h => by subst h; rw [← HE1.out, ← HE2.out]; simp), hb⟩
  · have HNE := Lib.hid (show (S1 == S2) = false by simpa using hS)
    have HSN := Lib.hid hS
    clear hS
    refine wp_region_noPanic ?_
    refine region_start (S := DEnd p m x w w1.heap.size Q1 w3.heap.size Q2) 13 rfl (by kernel_rfl) (H4.out.below (below_drew _)) (fun hHeld => ?_)
    refine take_at 0 106 (.agg (poolA Q1)) rfl rfl (by kernel_rfl) (by kernel_rfl) (by kernel_rfl) (fun _ _ _ h => h) (yields_pool (by rfl) 31 (.tmp 21) rfl (w1.heap.size) rfl 31 (Q1) _ (fun W h => h.n1) Tryd.underlying31 rfl pool_info) hHeld ?_
    simp only [put_laws]
    refine take_at 1 107 (.agg (poolA Q2)) rfl rfl (by kernel_rfl) (by kernel_rfl) (by kernel_rfl) (fun _ _ _ h => h) (yields_pool (by rfl) 38 (.tmp 24) rfl (w3.heap.size) rfl 38 (Q2) _ (fun W h => h.n2) Tryd.underlying38 rfl rpool_info) hHeld ?_
    simp only [put_laws]
    refine take_at 2 108 (.int .i64 S1) rfl rfl (by kernel_rfl) (by kernel_rfl) (by kernel_rfl) (fun _ _ _ h => h) (Or.inl ⟨by rfl, by intro W hW; clear hW; go_simp⟩) hHeld ?_
    simp only [put_laws]
    refine take_at 3 109 (.int .i64 S2) rfl rfl (by kernel_rfl) (by kernel_rfl) (by kernel_rfl) (fun _ _ _ h => h) (Or.inl ⟨by rfl, by intro W hW; clear hW; go_simp⟩) hHeld ?_
    simp only [put_laws]
    refine take_at 4 110 (.bool false) rfl rfl (by kernel_rfl) (by kernel_rfl) (by kernel_rfl) (fun _ _ _ h => h) (Or.inl ⟨by rfl, by intro W hW; have hx := HNE.out; clear hW; go_simp⟩) hHeld ?_
    simp only [put_laws]
    refine take_at 5 111 (.bool false) rfl rfl (by kernel_rfl) (by kernel_rfl) (by kernel_rfl) (fun _ _ _ h => h) (Or.inl ⟨by rfl, by intro W hW; clear hW; go_simp⟩) hHeld ?_
    simp only [put_laws]
    refine take_at 6 112 undef rfl rfl (by kernel_rfl) (by kernel_rfl) (by kernel_rfl) (fun _ _ _ h => h) (Or.inr ⟨by rfl, rfl⟩) hHeld ?_
    simp only [put_laws]
    refine take_at 7 113 undef rfl rfl (by kernel_rfl) (by kernel_rfl) (by kernel_rfl) (fun _ _ _ h => h) (Or.inr ⟨by rfl, rfl⟩) hHeld ?_
    simp only [put_laws]
    refine take_at 8 114 undef rfl rfl (by kernel_rfl) (by kernel_rfl) (by kernel_rfl) (fun _ _ _ h => h) (Or.inr ⟨by rfl, rfl⟩) hHeld ?_
    simp only [put_laws]
    refine take_at 9 115 (.bool false) rfl rfl (by kernel_rfl) (by kernel_rfl) (by kernel_rfl) (fun _ _ _ h => h) (Or.inl ⟨by rfl, by intro W hW; clear hW; go_simp⟩) hHeld ?_
    simp only [put_laws]
    refine wpAnyH_ready (rs := [10]) (by kernel_rfl) (by simp) ?_
    refine AllReadyH.cons rfl (fun K hK => ?_) AllReadyH.nil
    obtain ⟨old, hold⟩ := hHeld.st.r0
    refine step_store_pool (by rfl) 31 (.tmp 6) (.tmp 106) (by rfl) (w.heap.size + 3) old Q1 31 (by rfl) (by rfl) hold pool_info ?_
    have hR0 := poolAt_put (q := Q1) hold
    have hHeld := hHeld.put0 Q1
    refine hK.out _ _ hHeld (fun hHeld => ?_)
    clear hK K hold
    refine wpAnyH_ready (rs := [11]) (by kernel_rfl) (by simp) ?_
    refine AllReadyH.cons rfl (fun K hK => ?_) AllReadyH.nil
    obtain ⟨old, hold⟩ := hHeld.st.r1
    refine step_store_pool (by rfl) 38 (.tmp 7) (.tmp 107) (by rfl) (w.heap.size + 4) old Q2 38 (by rfl) (by rfl) hold rpool_info ?_
    have hR0 := hR0.setRow (k := w.heap.size + 4) (poolA Q2) (by omega)
    have hR1 := poolAt_put (q := Q2) hold
    have hHeld := hHeld.put1 Q2
    refine hK.out _ _ hHeld (fun hHeld => ?_)
    clear hK K hold
    refine take_at 12 8 (.bool false) rfl rfl (by kernel_rfl) (by kernel_rfl) (by kernel_rfl) (fun _ _ _ h => h) (Or.inl ⟨by rfl, by intro W hW; clear hW; go_simp⟩) hHeld ?_
    simp only [put_laws]
    refine wpAnyH_done (by kernel_rfl) ?_ _
    refine NoPanic.normal ?_
    go_wp2
    have hb := hHeld.st.bel
    refine bodyPost_ret (results_pools rfl _ _ (w.heap.size + 3) (w.heap.size + 4) 31 38 Q1 Q2 _ _ (.bool false) rfl rfl rfl hR0 hR1 Tryd.underlying31 rfl pool_info Tryd.underlying38 rfl rpool_info) rfl ?_
    exact ⟨_, by rw [HQ1.out, HQ2.out], (fun h => by subst h; exact absurd (HS1.out.symm.trans HS2.out) HSN.out), hb⟩
set_option maxHeartbeats 2000000 in
set_option maxRecDepth 100000 in
theorem does_begin1 (p m : Pl) (x : Po.Act) (w : World) (hA : DAsk p m x w) (hr : (x.kind : Int).tmod 6 = 1) :
    Calls Tryd.prog 13 #[.agg (poolA p), .agg (poolA m), .agg (actA x)] w (DPost p m ((Po.begin p).1) ((Po.begin m).1) w) := by
  have hz1 := (zero_of_info zero_pool_info).1
  have hz2 := (zero_of_info zero_rpool_info).1
  have H0 := Lib.hid (dst_first p m x w)
  have HA := Lib.hid hA
  have hk := hA.k
  have hc := H0.out.kind
  have hfa := H0.out.fa
  have hfb := H0.out.fb
  unfold dWorld at hc hfa hfb H0
  clear hA
  go_enter Tryd.func13, Tryd.ntmps13
  go_wp2_with (refine load_pool rfl 31 (.tmp 3) rfl w.heap.size p 31 rfl _ H0.out.po Tryd.underlying31 rfl pool_info ?_)
  refine (begin_any p _ HA.out.okp HA.out.pc (tab_keep HA.out.t H0.out.bel)).mono ?_
  rintro e w1 ⟨rfl, hb1⟩
  generalize hq1 : (Po.begin p).1 = Q1
  generalize hs1 : (Po.begin p).2.1 = S1
  generalize he1 : (Po.begin p).2.2 = E1
  have HQ1 := Lib.hid hq1
  have HS1 := Lib.hid hs1
  have HE1 := Lib.hid he1
  clear hq1 he1 hs1
  have H1 := Lib.hid (H0.out.below hb1)
  have hfa1 := H1.out.fa
  have hfb1 := H1.out.fb
  clear hb1 H0 hc hfa hfb
  go_wp2_with (first
    | (refine wpList_letP rfl 31 (.tmp 21) (.tmp 97) rfl rfl w1 Q1 rfl rfl rfl pool_info ?_; intro w2 n2 hb2; have N2 := Lib.hid n2; have H2 := Lib.hid (H1.out.below hb2); have hfa2 := H2.out.fa; have hfb2 := H2.out.fb; have L2 := Lib.hid (show w.heap.size + 5 ≤ w1.heap.size from H1.out.size5); clear n2 hb2)
    | (refine load_pool rfl 38 (.tmp 4) rfl (w.heap.size + 1) m 38 rfl _ H2.out.pm Tryd.underlying38 rfl rpool_info ?_))
  refine (rbegin_any m _ HA.out.okm HA.out.ms HA.out.md HA.out.mc (tab_keep HA.out.t H2.out.bel)).mono ?_
  rintro e w3 ⟨rfl, hb3⟩
  generalize hq2 : (Po.begin m).1 = Q2
  generalize hs2 : (Po.begin m).2.1 = S2
  generalize he2 : (Po.begin m).2.2 = E2
  have HQ2 := Lib.hid hq2
  have HS2 := Lib.hid hs2
  have HE2 := Lib.hid he2
  clear hq2 he2 hs2
  have H3 := Lib.hid (H2.out.below hb3)
  have N3 := Lib.hid (N2.out.below hb3)
  clear hb3 H1 H2 N2 hfa1 hfb1 hfa2 hfb2
  go_wp2_with (refine wpList_letP rfl 38 (.tmp 24) (.tmp 103) rfl rfl w3 Q2 rfl rfl rfl rpool_info ?_; intro w4 n4 hb4; have H4 := Lib.hid (show DEnd p m x w w1.heap.size Q1 w3.heap.size Q2 w4 from ⟨H3.out.below hb4, N3.out.below hb4, n4, L2.out, H3.out.size5⟩); clear n4 hb4)
  by_cases hS : S1 = S2
  · subst hS
    refine wp_region_noPanic ?_
    refine region_start (S := DEnd p m x w w1.heap.size Q1 w3.heap.size Q2) 13 rfl (by kernel_rfl) (H4.out.below (below_drew _)) (fun hHeld => ?_)
    refine take_at 0 106 (.agg (poolA Q1)) rfl rfl (by kernel_rfl) (by kernel_rfl) (by kernel_rfl) (fun _ _ _ h => h) (yields_pool (by rfl) 31 (.tmp 21) rfl (w1.heap.size) rfl 31 (Q1) _ (fun W h => h.n1) Tryd.underlying31 rfl pool_info) hHeld ?_
    simp only [put_laws]
    refine take_at 1 107 (.agg (poolA Q2)) rfl rfl (by kernel_rfl) (by kernel_rfl) (by kernel_rfl) (fun _ _ _ h => h) (yields_pool (by rfl) 38 (.tmp 24) rfl (w3.heap.size) rfl 38 (Q2) _ (fun W h => h.n2) Tryd.underlying38 rfl rpool_info) hHeld ?_
    simp only [put_laws]
    refine take_at 2 108 (.int .i64 S1) rfl rfl (by kernel_rfl) (by kernel_rfl) (by kernel_rfl) (fun _ _ _ h => h) (Or.inl ⟨by rfl, by intro W hW; clear hW; go_simp⟩) hHeld ?_
    simp only [put_laws]
    refine take_at 3 109 (.int .i64 S1) rfl rfl (by kernel_rfl) (by kernel_rfl) (by kernel_rfl) (fun _ _ _ h => h) (Or.inl ⟨by rfl, by intro W hW; clear hW; go_simp⟩) hHeld ?_
    simp only [put_laws]
    refine take_at 4 110 (.bool true) rfl rfl (by kernel_rfl) (by kernel_rfl) (by kernel_rfl) (fun _ _ _ h => h) (Or.inl ⟨by rfl, by intro W hW; clear hW; go_simp⟩) hHeld ?_
    simp only [put_laws]
    refine take_at 5 111 (.bool true) rfl rfl (by kernel_rfl) (by kernel_rfl) (by kernel_rfl) (fun _ _ _ h => h) (Or.inl ⟨by rfl, by intro W hW; clear hW; go_simp⟩) hHeld ?_
    simp only [put_laws]
    refine take_at 6 112 (.int .i64 E1) rfl rfl (by kernel_rfl) (by kernel_rfl) (by kernel_rfl) (fun _ _ _ h => h) (Or.inl ⟨by rfl, by intro W hW; clear hW; go_simp⟩) hHeld ?_
    simp only [put_laws]
    refine take_at 7 113 (.int .i64 E2) rfl rfl (by kernel_rfl) (by kernel_rfl) (by kernel_rfl) (fun _ _ _ h => h) (Or.inl ⟨by rfl, by intro W hW; clear hW; go_simp⟩) hHeld ?_
    simp only [put_laws]
    refine take_at 8 114 (.bool (E1 == E2)) rfl rfl (by kernel_rfl) (by kernel_rfl) (by kernel_rfl) (fun _ _ _ h => h) (Or.inl ⟨by rfl, by intro W hW; clear hW; go_simp⟩) hHeld ?_
    simp only [put_laws]
    refine take_at 9 115 (.bool (E1 == E2)) rfl rfl (by kernel_rfl) (by kernel_rfl) (by kernel_rfl) (fun _ _ _ h => h) (Or.inl ⟨by rfl, by intro W hW; clear hW; go_simp⟩) hHeld ?_
    simp only [put_laws]
    refine wpAnyH_ready (rs := [10]) (by kernel_rfl) (by simp) ?_
    refine AllReadyH.cons rfl (fun K hK => ?_) AllReadyH.nil
    obtain ⟨old, hold⟩ := hHeld.st.r0
    refine step_store_pool (by rfl) 31 (.tmp 6) (.tmp 106) (by rfl) (w.heap.size + 3) old Q1 31 (by rfl) (by rfl) hold pool_info ?_
    have hR0 := poolAt_put (q := Q1) hold
    have hHeld := hHeld.put0 Q1
    refine hK.out _ _ hHeld (fun hHeld => ?_)
    clear hK K hold
    refine wpAnyH_ready (rs := [11]) (by kernel_rfl) (by simp) ?_
    refine AllReadyH.cons rfl (fun K hK => ?_) AllReadyH.nil
    obtain ⟨old, hold⟩ := hHeld.st.r1
    refine step_store_pool (by rfl) 38 (.tmp 7) (.tmp 107) (by rfl) (w.heap.size + 4) old Q2 38 (by rfl) (by rfl) hold rpool_info ?_
    have hR0 := hR0.setRow (k := w.heap.size + 4) (poolA Q2) (by omega)
    have hR1 := poolAt_put (q := Q2) hold
    have hHeld := hHeld.put1 Q2
    refine hK.out _ _ hHeld (fun hHeld => ?_)
    clear hK K hold
    refine take_at 12 8 (.bool (E1 == E2)) rfl rfl (by kernel_rfl) (by kernel_rfl) (by kernel_rfl) (fun _ _ _ h => h) (Or.inl ⟨by rfl, by intro W hW; clear hW; go_simp⟩) hHeld ?_
    simp only [put_laws]
    refine wpAnyH_done (by kernel_rfl) ?_ _
    refine NoPanic.normal ?_
    go_wp2
    have hb := hHeld.st.bel
    refine bodyPost_ret (results_pools rfl _ _ (w.heap.size + 3) (w.heap.size + 4) 31 38 Q1 Q2 _ _ (.bool (E1 == E2)) rfl rfl rfl hR0 hR1 Tryd.underlying31 rfl pool_info Tryd.underlying38 rfl rpool_info) rfl ?_
    exact ⟨_, by rw [HQ1.out, HQ2.out], (fun h => by subst h; rw [← HE1.out, ← HE2.out]; simp), hb⟩
  · have HNE := Lib.hid (show (S1 == S2) = false by simpa using hS)
    have HSN := Lib.hid hS
    clear hS
    refine wp_region_noPanic ?_
    refine region_start (S := DEnd p m x w w1.heap.size Q1 w3.heap.size Q2) 13 rfl (by kernel_rfl) (H4.out.below (below_drew _)) (fun hHeld => ?_)
    refine take_at 0 106 (.agg (poolA Q1)) rfl rfl (by kernel_rfl) (by kernel_rfl) (by kernel_rfl) (fun _ _ _ h => h) (yields_pool (by rfl) 31 (.tmp 21) rfl (w1.heap.size) rfl 31 (Q1) _ (fun W h => h.n1) Tryd.underlying31 rfl pool_info) hHeld ?_
    simp only [put_laws]
    refine take_at 1 107 (.agg (poolA Q2)) rfl rfl (by kernel_rfl) (by kernel_rfl) (by kernel_rfl) (fun _ _ _ h => h) (yields_pool (by rfl) 38 (.tmp 24) rfl (w3.heap.size) rfl 38 (Q2) _ (fun W h => h.n2) Tryd.underlying38 rfl rpool_info) hHeld ?_
    simp only [put_laws]
    refine take_at 2 108 (.int .i64 S1) rfl rfl (by kernel_rfl) (by kernel_rfl) (by kernel_rfl) (fun _ _ _ h => h) (Or.inl ⟨by rfl, by intro W hW; clear hW; go_simp⟩) hHeld ?_
    simp only [put_laws]
    refine take_at 3 109 (.int .i64 S2) rfl rfl (by kernel_rfl) (by kernel_rfl) (by kernel_rfl) (fun _ _ _ h => h) (Or.inl ⟨by rfl, by intro W hW; clear hW; go_simp⟩) hHeld ?_
    simp only [put_laws]
    refine take_at 4 110 (.bool false) rfl rfl (by kernel_rfl) (by kernel_rfl) (by kernel_rfl) (fun _ _ _ h => h) (Or.inl ⟨by rfl, by intro W hW; have hx := HNE.out; clear hW; go_simp⟩) hHeld ?_
    simp only [put_laws]
    refine take_at 5 111 (.bool false) rfl rfl (by kernel_rfl) (by kernel_rfl) (by kernel_rfl) (fun _ _ _ h => h) (Or.inl ⟨by rfl, by intro W hW; clear hW; go_simp⟩) hHeld ?_
    simp only [put_laws]
    refine take_at 6 112 undef rfl rfl (by kernel_rfl) (by kernel_rfl) (by kernel_rfl) (fun _ _ _ h => h) (Or.inr ⟨by rfl, rfl⟩) hHeld ?_
    simp only [put_laws]
    refine take_at 7 113 undef rfl rfl (by kernel_rfl) (by kernel_rfl) (by kernel_rfl) (fun _ _ _ h => h) (Or.inr ⟨by rfl, rfl⟩) hHeld ?_
    simp only [put_laws]
    refine take_at 8 114 undef rfl rfl (by kernel_rfl) (by kernel_rfl) (by kernel_rfl) (fun _ _ _ h => h) (Or.inr ⟨by rfl, rfl⟩) hHeld ?_
    simp only [put_laws]
    refine take_at 9 115 (.bool false) rfl rfl (by kernel_rfl) (by kernel_rfl) (by kernel_rfl) (fun _ _ _ h => h) (Or.inl ⟨by rfl, by intro W hW; clear hW; go_simp⟩) hHeld ?_
    simp only [put_laws]
    refine wpAnyH_ready (rs := [10]) (by kernel_rfl) (by simp) ?_
    refine AllReadyH.cons rfl (fun K hK => ?_) AllReadyH.nil
    obtain ⟨old, hold⟩ := hHeld.st.r0
    refine step_store_pool (by rfl) 31 (.tmp 6) (.tmp 106) (by rfl) (w.heap.size + 3) old Q1 31 (by rfl) (by rfl) hold pool_info ?_
    have hR0 := poolAt_put (q := Q1) hold
    have hHeld := hHeld.put0 Q1
    refine hK.out _ _ hHeld (fun hHeld => ?_)
    clear hK K hold
    refine wpAnyH_ready (rs := [11]) (by kernel_rfl) (by simp) ?_
    refine AllReadyH.cons rfl (fun K hK => ?_) AllReadyH.nil
    obtain ⟨old, hold⟩ := hHeld.st.r1
    refine step_store_pool (by rfl) 38 (.tmp 7) (.tmp 107) (by rfl) (w.heap.size + 4) old Q2 38 (by rfl) (by rfl) hold rpool_info ?_
    have hR0 := hR0.setRow (k := w.heap.size + 4) (poolA Q2) (by omega)
    have hR1 := poolAt_put (q := Q2) hold
    have hHeld := hHeld.put1 Q2
    refine hK.out _ _ hHeld (fun hHeld => ?_)
    clear hK K hold
    refine take_at 12 8 (.bool false) rfl rfl (by kernel_rfl) (by kernel_rfl) (by kernel_rfl) (fun _ _ _ h => h) (Or.inl ⟨by rfl, by intro W hW; clear hW; go_simp⟩) hHeld ?_
    simp only [put_laws]
    refine wpAnyH_done (by kernel_rfl) ?_ _
    refine NoPanic.normal ?_
    go_wp2
    have hb := hHeld.st.bel
    refine bodyPost_ret (results_pools rfl _ _ (w.heap.size + 3) (w.heap.size + 4) 31 38 Q1 Q2 _ _ (.bool false) rfl rfl rfl hR0 hR1 Tryd.underlying31 rfl pool_info Tryd.underlying38 rfl rpool_info) rfl ?_
    exact ⟨_, by rw [HQ1.out, HQ2.out], (fun h => by subst h; exact absurd (HS1.out.symm.trans HS2.out) HSN.out), hb⟩
theorem kind_mod (x : Po.Act) (r : Nat) (h : x.kind % 6 = r) : (x.kind : Int).tmod 6 = (r : Nat) := by
  rw [Int.tmod_eq_emod_of_nonneg (by omega)]; omega
theorem does_any (p m : Pl) (x : Po.Act) (w : World) (hA : DAsk p m x w) : Calls Tryd.prog 13 #[.agg (poolA p), .agg (poolA m), .agg (actA x)] w (DPost p m (Po.act p x) (Po.act m x) w) := by
  have hlt : x.kind % 6 < 6 := Nat.mod_lt _ (by decide)
  have cs : x.kind % 6 = 0 ∨ x.kind % 6 = 1 ∨ x.kind % 6 = 2 ∨ x.kind % 6 = 3 ∨ x.kind % 6 = 4 ∨ x.kind % 6 = 5 := by omega
  unfold Po.act
  rcases cs with h | h | h | h | h | h
  · rw [h]; exact does_begin0 p m x w hA (kind_mod x 0 h)
  · rw [h]; exact does_begin1 p m x w hA (kind_mod x 1 h)
  · rw [h]; exact does_edge2 p m x w hA (kind_mod x 2 h)
  · rw [h]; exact does_edge3 p m x w hA (kind_mod x 3 h)
  · rw [h]; exact does_end p m x w hA (kind_mod x 4 h)
  · rw [h]; exact does_coll p m x w hA (kind_mod x 5 h)
end Go.Proofs.YtakoceablbgchaaDoor
