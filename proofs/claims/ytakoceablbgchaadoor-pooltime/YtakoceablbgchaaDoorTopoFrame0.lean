/-
  The frame of both Inserts: where things lie; steps of the regions that draw their order; results.
-/
import Derived.Test.YtakoceablbgchaaDoorTopoRelay
namespace Go.Proofs.YtakoceablbgchaaDoor
open Go.RowKit
theorem results_three {fn : Func} {p q u : Tmp} {ty tz : TypeId} (h : fn.results = #[.cell p ty, .cell q tz, .tmp u]) (tmps : Array Value) (w : World) (g k : Nat) (t t' : TypeId) (cs ds : Array Value) (n n' : Nat) (el el' : TypeId) (x : Value)
    (hp : tmps.getD p undef = .pointer (some ⟨g, 0, none⟩)) (hq : tmps.getD q undef = .pointer (some ⟨k, 0, none⟩)) (hx : tmps.getD u undef = x) (hg : w.heap[g]? = some (.cells cs t (0, 0))) (hk : w.heap[k]? = some (.cells ds t' (0, 0)))
    (hu : Tryd.prog.underlying ty = some (.array n el)) (hu' : Tryd.prog.underlying tz = some (.array n' el')) (hi : (Tryd.prog.info? ty).map (·.size) = some cs.size) (hi' : (Tryd.prog.info? tz).map (·.size) = some ds.size) :
    (results fn tmps).run Tryd.prog w = .ok (.tuple #[.agg cs, .agg ds, x]) w := by
  have hp' : tmps[p]?.getD undef = .pointer (some ⟨g, 0, none⟩) := by simpa using hp
  have hq' : tmps[q]?.getD undef = .pointer (some ⟨k, 0, none⟩) := by simpa using hq
  have hx' : tmps[u]?.getD undef = x := by simpa using hx
  simp only [results, h]
  simp [Sem.run_bind, hp', hq', hx', asAddr, Result.andThen, run_loadVar_row w g t ty cs (0, 0) _ hg hu rfl hi, run_loadVar_row w k t' tz ds (0, 0) _ hk hu' rfl hi']
theorem step_store_row {w : World} {ops : Array Oper} {o : Oper} {a : Act} {K : Act → World → Prop} {Q : Exit → Act → World → Prop} {E : Prop} (hgd : o.guard = none) (ty : TypeId) (x y : Operand) (ho : o.op = .store ty x y)
    (g : Nat) (cells : Array Value) (hx : a.eval x = .pointer (some ⟨g, 0, none⟩)) (hy : a.eval y = .agg cells)
    (t : TypeId) (old : Array Value) (hg : w.heap[g]? = some (.cells old t (0, 0))) (hi : (Tryd.prog.info? ty).map (·.size) = some cells.size)
    (hold : old.size = cells.size) (h1 : cells.all (·.oneCell') = true)
    (h : K (a.put o.dst undef) (w.setRow g cells)) : if Region.wanted o (yielded ops a.tmps) = true then Oper.wp Tryd.prog o a w K Q else E := by
  have hw : Region.wanted o (yielded ops a.tmps) = true := by simp [Region.wanted, hgd]
  rw [if_pos hw]
  exact wp_store_row ty x y ho g cells hx hy t old hg hi hold h1 h
/-- where both Inserts keep things: the graph, the order, both results. -/
structure ISt (t u : Nat) (w : World) (m : Mm.Gr) (o : Od.O) (W : World) : Prop where
  gr : MatAt W w.heap.size m t
  od : OrdAt W (w.heap.size + 1) o u
  rg : ∃ x, MatAt W (w.heap.size + 2) x t
  ro : ∃ x, OrdAt W (w.heap.size + 3) x u
  tab : TabAt W
  bel : Below w.heap.size w W
theorem ISt.below {t u : Nat} {w W W' : World} {m : Mm.Gr} {o : Od.O} (h : ISt t u w m o W) (hb : Below W.heap.size W W') : ISt t u w m o W' :=
  ⟨h.gr.below hb, h.od.below hb, h.rg.imp fun _ h => h.below hb, h.ro.imp fun _ h => h.below hb, tab_below h.tab hb, h.bel.trans (hb.mono h.bel.size)⟩
theorem ISt.alloc {t u : Nat} {w W : World} {m : Mm.Gr} {o : Od.O} (h : ISt t u w m o W) (ob : Obj) : ISt t u w m o (W.alloc ob) := h.below (below_new W ob)
theorem ISt.drew {t u : Nat} {w W : World} {m : Mm.Gr} {o : Od.O} (h : ISt t u w m o W) : ISt t u w m o W.drew := h.below (below_drew W)
theorem ISt.drewN {t u : Nat} {w W : World} {m : Mm.Gr} {o : Od.O} (h : ISt t u w m o W) (n : Nat) : ISt t u w m o (W.drewN n) := h.below (below_drewN (Below.refl _ _) n)
theorem ist_first {w : World} (t u : Nat) (m : Mm.Gr) (o : Od.O) (hT : TabAt w) :
    ISt t u w m o ((((w.alloc (.cells (matA m) t)).alloc (.cells (ordA o) u)).alloc (.cells (Array.replicate 32 (Value.int .u64 0)) t)).alloc (.cells (Array.replicate 32 (Value.int .i64 0)) u)) := by
  have h1 : OrdAt ((w.alloc (.cells (matA m) t)).alloc (.cells (ordA o) u)) (w.heap.size + 1) o u := by
    have := ordAt_new (w.alloc (.cells (matA m) t)) o u
    simpa using this
  have h2 : MatAt (((w.alloc (.cells (matA m) t)).alloc (.cells (ordA o) u)).alloc (.cells (Array.replicate 32 (Value.int .u64 0)) t)) (w.heap.size + 2) zeroM t := by
    have := zero_lit ((w.alloc (.cells (matA m) t)).alloc (.cells (ordA o) u)) t
    simpa using this
  have h3 : OrdAt ((((w.alloc (.cells (matA m) t)).alloc (.cells (ordA o) u)).alloc (.cells (Array.replicate 32 (Value.int .u64 0)) t)).alloc (.cells (Array.replicate 32 (Value.int .i64 0)) u)) (w.heap.size + 3) zeroO u := by
    have := zeroO_lit (((w.alloc (.cells (matA m) t)).alloc (.cells (ordA o) u)).alloc (.cells (Array.replicate 32 (Value.int .u64 0)) t)) u
    simpa using this
  exact ⟨(((matAt_new w m t).alloc _).alloc _).alloc _, (h1.alloc _).alloc _, ⟨_, h2.alloc _⟩, ⟨_, h3⟩, tabAt_new (tabAt_new (tabAt_new (tabAt_new hT _) _) _) _,
    ((((Below.refl _ _).alloc (Nat.le_refl _) _).alloc (by simp) _).alloc (by simp; omega) _).alloc (by simp; omega) _⟩
/-- a result is stored. -/
theorem ISt.setG {t u : Nat} {w W : World} {m n : Mm.Gr} {o : Od.O} (h : ISt t u w m o W) : ISt t u w m o (W.setRow (w.heap.size + 2) (matA n)) ∧ MatAt (W.setRow (w.heap.size + 2) (matA n)) (w.heap.size + 2) n t := by
  obtain ⟨x, hx⟩ := h.rg
  have := h.tab.lt
  refine ⟨⟨h.gr.setRow _ (by omega), h.od.setRow _ (by omega), ⟨n, matAt_put hx⟩, h.ro.imp fun _ h => h.setRow _ (by omega), tab_row h.tab ?_, setRow_below h.bel (by omega)⟩, matAt_put hx⟩
  have hb := h.bel.size
  intro e
  omega
theorem ISt.setO {t u : Nat} {w W : World} {m : Mm.Gr} {o q : Od.O} (h : ISt t u w m o W) : ISt t u w m o (W.setRow (w.heap.size + 3) (ordA q)) ∧ OrdAt (W.setRow (w.heap.size + 3) (ordA q)) (w.heap.size + 3) q u := by
  obtain ⟨x, hx⟩ := h.ro
  refine ⟨⟨h.gr.setRow _ (by omega), h.od.setRow _ (by omega), h.rg.imp fun _ h => h.setRow _ (by omega), ⟨q, ordAt_put hx⟩, tab_row h.tab ?_, setRow_below h.bel (by omega)⟩, ordAt_put hx⟩
  intro e
  omega
theorem ISt.setG' {t u : Nat} {w W : World} {m n : Mm.Gr} {o : Od.O} {q : Od.O} (_h : ISt t u w m o W) (hq : OrdAt W (w.heap.size + 3) q u) : OrdAt (W.setRow (w.heap.size + 2) (matA n)) (w.heap.size + 3) q u := hq.setRow _ (by omega)
/- may there be an edge? -/
theorem not_may {a b : Int} (ha : -9223372036854775808 ≤ a ∧ a ≤ 9223372036854775807) (hb : -9223372036854775808 ≤ b ∧ b ≤ 9223372036854775807) (h : ¬ Od.May a b) :
    Far a ∨ (∃ x : Nat, a = x ∧ x < 32 ∧ Far b) ∨ (∃ x : Nat, a = x ∧ b = x ∧ x < 32) := by
  unfold Od.May at h
  unfold Far
  by_cases h1 : 0 ≤ a ∧ a < 32
  · obtain ⟨x, rfl⟩ := Int.eq_ofNat_of_zero_le h1.1
    by_cases h2 : 0 ≤ b ∧ b < 32
    · have : ((x : Nat) : Int) = b := Classical.byContradiction fun h3 => h ⟨h1, h2, h3⟩
      exact .inr (.inr ⟨x, rfl, this.symm, by omega⟩)
    · exact .inr (.inl ⟨x, rfl, by omega, hb, by omega⟩)
  · exact .inl ⟨ha, by omega⟩
theorem put_not (m : Mm.Gr) (a b : Int) (w : World) (ha : -9223372036854775808 ≤ a ∧ a ≤ 9223372036854775807) (hb : -9223372036854775808 ≤ b ∧ b ≤ 9223372036854775807) (h : ¬ Od.May a b) :
    Calls Tryd.prog 27 #[.agg (matA m), .int .i64 a, .int .i64 b] w fun e w' => e = .returned (.tuple #[.agg (matA m), .bool false]) ∧ Below w.heap.size w w' := by
  rcases not_may ha hb h with h | ⟨x, rfl, hx, h⟩ | ⟨x, rfl, rfl, hx⟩
  · exact put_no1 m a b w h
  · exact put_no2 m x b w hx h
  · exact put_no3 m x w hx
end Go.Proofs.YtakoceablbgchaaDoor
