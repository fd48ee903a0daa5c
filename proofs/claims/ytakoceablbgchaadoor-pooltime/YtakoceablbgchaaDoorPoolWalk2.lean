/-
  Contracts of pool.New, pool.End.
-/
import Derived.Test.YtakoceablbgchaaDoorPoolWalk1
namespace Go.Proofs.YtakoceablbgchaaDoor
open Go.RowKit
attribute [local go_sem ↓] Go.wp_at_zero Go.wp_at_succ
theorem load_whole (w : World) (g : Nat) (p : Pl) (t ty : Nat) (d : TypeDesc) (h : PoolAt w g p t) (hu : Tryd.prog.underlying ty = some d) (hd : d.isRow = true) (hi : (Tryd.prog.info? ty).map (·.size) = some 100) :
    (loadVar ty ⟨g, 0, none⟩).run Tryd.prog w = .ok (.agg (poolA p)) w :=
  run_loadVar_mid w g 0 ty (poolA p).toList d (fun j v hv => by rw [Nat.zero_add]; rw [Array.getElem?_toList] at hv; rw [cell_of_row _ _ _ _ _ _ h, hv]) hu hd (by simpa [poolA_size] using hi)
theorem results_pool {fn : Func} {c u : Tmp} {ty : TypeId} (h : fn.results = #[.cell c ty, .tmp u]) (tmps : Array Value) (w : World) (g : Nat) (t : TypeId) (p : Pl) (d : TypeDesc) (x : Value)
    (hp : tmps.getD c undef = .pointer (some ⟨g, 0, none⟩)) (hx : tmps.getD u undef = x) (hg : PoolAt w g p t)
    (hu : Tryd.prog.underlying ty = some d) (hd : d.isRow = true) (hi : (Tryd.prog.info? ty).map (·.size) = some 100) :
    (results fn tmps).run Tryd.prog w = .ok (.tuple #[.agg (poolA p), x]) w := by
  rw [results_cell_tmp h, hp, hx]
  simp [asAddr, Result.andThen, load_whole w g p t ty d hg hu hd hi]
theorem wpList_build {ops : Array Oper} {rest : List Oper} {op : Oper} {a : Act} {w : World} {Q : Exit → Act → World → Prop} (hw : Region.wanted op (yielded ops a.tmps) = true) (t : TypeId) (parts : Array (Nat × Operand)) (ho : op.op = .build t parts)
    (parts' : Array (Nat × Value)) (hp : (parts.map fun (i, x) => (i, a.eval x)) = parts') (v : Value) (hv : (Instr.build t parts').run Tryd.prog w = .ok v w)
    (hK : wpList Tryd.prog ops Q rest (a.put op.dst v) w) : wpList Tryd.prog ops Q (op :: rest) a w :=
  wpList_step fun _ hK' => by
    rw [if_pos hw]
    unfold Oper.wp execOp
    simp only [ho, hp, Sem.run_bind, hv, Result.andThen_ok]
    exact hK' _ _ hK
/-- the pool that was handed in lies in its box, and there is a variable for what is told. -/
structure QSt (p : Pl) (t : Nat) (w : World) (q : Pl) (wr : World) : Prop where
  po : PoolAt wr w.heap.size p t
  re : PoolAt wr (w.heap.size + 1) q t
  bel : Below w.heap.size w wr
theorem QSt.below {p q : Pl} {t : Nat} {w W W' : World} (h : QSt p t w q W) (hb : Below W.heap.size W W') : QSt p t w q W' := ⟨h.po.below hb, h.re.below hb, h.bel.trans (hb.mono h.bel.size)⟩
theorem qst_first (p : Pl) (t : Nat) (w : World) : QSt p t w zeroP ((w.alloc (.cells (poolA p) t)).alloc (.cells (poolA zeroP) t)) :=
  ⟨(poolAt_new w p t).alloc _, by have := poolAt_new (w.alloc (.cells (poolA p) t)) zeroP t; simpa using this, ((Below.refl _ _).alloc (Nat.le_refl _) _).alloc (by simp) _⟩
theorem QSt.tell {p q : Pl} {t : Nat} {w W : World} (h : QSt p t w q W) (r : Pl) : QSt p t w r (W.setRow (w.heap.size + 1) (poolA r)) :=
  ⟨h.po.setRow _ (by omega), poolAt_put h.re, setRow_below h.bel (by omega)⟩
set_option maxHeartbeats 1000000 in
set_option maxRecDepth 100000 in
theorem pnew_yes (n : Int) (w : World) (h : 1 ≤ n ∧ n ≤ 32) :
    Calls Tryd.prog 10 #[.int .i64 n] w fun e w' => e = .returned (.tuple #[.agg (poolA (Po.newP n)), .bool true]) ∧ Below w.heap.size w w' := by
  have hz := (zero_of_info zero_pool_info).1
  have H0 := Lib.hid (pst_first zeroP 31 w)
  go_enter Tryd.func10, Tryd.ntmps10
  go_wp2_with fail
  refine (new_any _).mono ?_
  rintro e w1 ⟨rfl, hb1⟩
  have H1 := Lib.hid (H0.out.below hb1)
  clear hb1 H0
  go_wp2_with (first
    | (refine wpList_build rfl 31 #[(0, .tmp 11), (2, .tmp 12)] rfl #[(0, .int .i64 n), (2, .agg (ordA Od.newO))] (by simp [Act.eval]) _ (build_new n _) ?_)
    | (refine store_pool rfl 31 (.tmp 2) (.tmp 13) rfl rfl w.heap.size _ (Po.newP n) 31 rfl rfl H1.out.po pool_info ?_))
  refine bodyPost_ret (results_pool rfl _ _ w.heap.size 31 (Po.newP n) _ (.bool true) rfl rfl (poolAt_put H1.out.po) Tryd.underlying31 rfl pool_info) rfl ⟨rfl, ?_⟩
  exact setRow_below H1.out.bel (Nat.le_refl _)
set_option maxHeartbeats 1000000 in
set_option maxRecDepth 100000 in
theorem pnew_no (n : Int) (w : World) (h : n < 1 ∨ 32 < n) (h0 : -9223372036854775808 ≤ n) (h1 : n ≤ 9223372036854775807) :
    Calls Tryd.prog 10 #[.int .i64 n] w fun e w' => e = .returned (.tuple #[.agg (poolA zeroP), .bool false]) ∧ Below w.heap.size w w' := by
  have hz := (zero_of_info zero_pool_info).1
  have H0 := Lib.hid (pst_first zeroP 31 w)
  have hbn := build_none
  go_enter Tryd.func10, Tryd.ntmps10
  by_cases hl : n < 1
  · go_wp2_with (refine store_pool rfl 31 (.tmp 2) (.tmp 10) rfl rfl w.heap.size _ zeroP 31 rfl rfl H0.out.po pool_info ?_)
    refine bodyPost_ret (results_pool rfl _ _ w.heap.size 31 zeroP _ (.bool false) rfl rfl (poolAt_put H0.out.po) Tryd.underlying31 rfl pool_info) rfl ⟨rfl, ?_⟩
    exact setRow_below H0.out.bel (Nat.le_refl _)
  · have hg : 32 < n := by omega
    go_wp2_with (refine store_pool rfl 31 (.tmp 2) (.tmp 10) rfl rfl w.heap.size _ zeroP 31 rfl rfl H0.out.po pool_info ?_)
    refine bodyPost_ret (results_pool rfl _ _ w.heap.size 31 zeroP _ (.bool false) rfl rfl (poolAt_put H0.out.po) Tryd.underlying31 rfl pool_info) rfl ⟨rfl, ?_⟩
    exact setRow_below H0.out.bel (Nat.le_refl _)
/- End -/
set_option maxHeartbeats 1000000 in
set_option maxRecDepth 100000 in
theorem end_no (p : Pl) (s : Int) (w : World) (hp : p.Ok) (h0 : -9223372036854775808 ≤ s) (h1 : s ≤ 9223372036854775807) (hs : Sm.has p.live s = false) :
    Calls Tryd.prog 19 #[.agg (poolA p), .int .i64 s] w fun e w' => e = .returned (.tuple #[.agg (poolA p), .int .i64 3]) ∧ Below w.heap.size w w' := by
  have hz := (zero_of_info zero_pool_info).1
  have H0 := Lib.hid (qst_first p 31 w)
  have HP := Lib.hid hp
  have HS := Lib.hid hs
  have hc := H0.out.po.live_
  clear hp hs
  go_enter Tryd.func19, Tryd.ntmps19
  go_wp2_with fail
  refine (hasI_val p.live s false _ HP.out.live h0 h1 HS.out).mono ?_
  rintro e w' ⟨rfl, rfl⟩
  go_wp2_with (first
    | (refine load_pool rfl 31 (.tmp 2) rfl w.heap.size p 31 rfl _ H0.out.po Tryd.underlying31 rfl pool_info ?_)
    | (refine store_pool rfl 31 (.tmp 4) (.tmp 11) rfl rfl (w.heap.size + 1) _ p 31 rfl rfl H0.out.re pool_info ?_))
  refine bodyPost_ret (results_pool rfl _ _ (w.heap.size + 1) 31 p _ (.int .i64 3) rfl rfl (H0.out.tell p).re Tryd.underlying31 rfl pool_info) rfl ⟨rfl, (H0.out.tell p).bel⟩
theorem QSt.put_live {p q : Pl} {t : Nat} {w W : World} (h : QSt p t w q W) (x : Nat) : QSt { p with live := x } t w q (W.setCell ⟨w.heap.size, 65, none⟩ (.int .u64 (x : Nat))) :=
  ⟨poolAt_live h.po, h.re.setCell _ _ (by simp), h.bel.setCell (by simp) _⟩
theorem QSt.put_done {p q : Pl} {t : Nat} {w W : World} (h : QSt p t w q W) (x : Nat) : QSt { p with done := x } t w q (W.setCell ⟨w.heap.size, 66, none⟩ (.int .u64 (x : Nat))) :=
  ⟨poolAt_done h.po, h.re.setCell _ _ (by simp), h.bel.setCell (by simp) _⟩
theorem QSt.put_count {p q : Pl} {t : Nat} {w W : World} (h : QSt p t w q W) (x : Int) : QSt { p with count := x } t w q (W.setCell ⟨w.heap.size, 99, none⟩ (.int .i64 x)) :=
  ⟨poolAt_count h.po, h.re.setCell _ _ (by simp), h.bel.setCell (by simp) _⟩
theorem QSt.put_id {p q : Pl} {t : Nat} {w W : World} (h : QSt p t w q W) (k : Nat) (hk : k < 32) (x : Int) : QSt { p with ids := Od.upd p.ids k x } t w q (W.setCell ⟨w.heap.size, 67 + k, none⟩ (.int .i64 x)) :=
  ⟨poolAt_id h.po hk, h.re.setCell _ _ (by simp), h.bel.setCell (by simp) _⟩
theorem QSt.put_m {p q : Pl} {t : Nat} {w W : World} (h : QSt p t w q W) (n : Mm.Gr) : QSt { p with m := n } t w q (W.setCells w.heap.size 1 (matA n).toList) :=
  ⟨poolAt_m h.po, (heap_setCells_other _ _ (by omega) _ _ _).trans h.re, setCells_below _ (Nat.le_refl _) _ _ _ h.bel⟩
theorem QSt.put_o {p q : Pl} {t : Nat} {w W : World} (h : QSt p t w q W) (n : Od.O) : QSt { p with o := n } t w q (W.setCells w.heap.size 33 (ordA n).toList) :=
  ⟨poolAt_o h.po, (heap_setCells_other _ _ (by omega) _ _ _).trans h.re, setCells_below _ (Nat.le_refl _) _ _ _ h.bel⟩
set_option maxHeartbeats 1000000 in
set_option maxRecDepth 100000 in
theorem end_yes (p : Pl) (s : Int) (w : World) (hp : p.Ok) (h0 : -9223372036854775808 ≤ s) (h1 : s ≤ 9223372036854775807) (hs : Sm.has p.live s = true) :
    Calls Tryd.prog 19 #[.agg (poolA p), .int .i64 s] w fun e w' => e = .returned (.tuple #[.agg (poolA (Po.ended p s)), .int .i64 0]) ∧ Below w.heap.size w w' := by
  have hz := (zero_of_info zero_pool_info).1
  have H0 := Lib.hid (qst_first p 31 w)
  have HP := Lib.hid hp
  have HS := Lib.hid hs
  have hc := H0.out.po.live_
  have hcf := H0.out.po.frozen 65
  clear hp hs
  go_enter Tryd.func19, Tryd.ntmps19
  go_wp2_with fail
  generalize (w.alloc (.cells (poolA p) 31)).alloc (.cells (poolA zeroP) 31) = W at *
  refine (hasI_val p.live s true _ HP.out.live h0 h1 HS.out).mono ?_
  rintro e w' ⟨rfl, rfl⟩
  go_wp2_with fail
  refine (less_any p.live s _ HP.out.live h0 h1).mono ?_
  rintro e w' ⟨rfl, rfl⟩
  have H1 := Lib.hid (H0.out.put_live (Sm.less p.live s))
  have hd := H1.out.po.done_
  have hdf := H1.out.po.frozen 66
  go_wp2_with fail
  refine (with_any p.done s _ HP.out.done h0 h1).mono ?_
  rintro e w' ⟨rfl, rfl⟩
  have H2 := Lib.hid (H1.out.put_done (Sm.add p.done s))
  go_wp2_with (first
    | (refine load_pool rfl 31 (.tmp 2) rfl w.heap.size _ 31 rfl _ H2.out.po Tryd.underlying31 rfl pool_info ?_)
    | (refine store_pool rfl 31 (.tmp 4) (.tmp 22) rfl rfl (w.heap.size + 1) _ _ 31 rfl rfl H2.out.re pool_info ?_))
  refine bodyPost_ret (results_pool rfl _ _ (w.heap.size + 1) 31 (Po.ended p s) _ (.int .i64 0) rfl rfl (H2.out.tell _).re Tryd.underlying31 rfl pool_info) rfl ⟨rfl, (H2.out.tell _).bel⟩
theorem end_any (p : Pl) (s : Int) (w : World) (hp : p.Ok) (h0 : -9223372036854775808 ≤ s) (h1 : s ≤ 9223372036854775807) :
    Calls Tryd.prog 19 #[.agg (poolA p), .int .i64 s] w fun e w' => e = .returned (.tuple #[.agg (poolA (Po.endP p s).1), .int .i64 (Po.endP p s).2]) ∧ Below w.heap.size w w' := by
  unfold Po.endP
  cases hs : Sm.has p.live s
  · exact end_no p s w hp h0 h1 hs
  · exact end_yes p s w hp h0 h1 hs
end Go.Proofs.YtakoceablbgchaaDoor
