/-
  The contract of pool.Edge.
-/
import Derived.Test.YtakoceablbgchaaDoorPoolWalk2
namespace Go.Proofs.YtakoceablbgchaaDoor
open Go.RowKit
attribute [local go_sem ↓] Go.wp_at_zero Go.wp_at_succ
theorem tab_keep {w W : World} (h : TabAt w) (hb : Below w.heap.size w W) : TabAt W := h.below hb h.lt
/-- two variables that were made, and given their values. -/
theorem two_new {t u : Nat} {W : World} (Z1 Z2 : Array Value) (m : Mm.Gr) (o : Od.O) :
    MatAt ((((W.alloc (.cells Z1 t)).alloc (.cells Z2 u)).setRow W.heap.size (matA m)).setRow (W.heap.size + 1) (ordA o)) W.heap.size m t ∧
    OrdAt ((((W.alloc (.cells Z1 t)).alloc (.cells Z2 u)).setRow W.heap.size (matA m)).setRow (W.heap.size + 1) (ordA o)) (W.heap.size + 1) o u ∧
    Below W.heap.size W ((((W.alloc (.cells Z1 t)).alloc (.cells Z2 u)).setRow W.heap.size (matA m)).setRow (W.heap.size + 1) (ordA o)) := by
  have h1 : MatAt (((W.alloc (.cells Z1 t)).alloc (.cells Z2 u)).setRow W.heap.size (matA m)) W.heap.size m t := setRow_heap _ _ _ _ _ _ (heap_alloc2_old _ _ _)
  have h2 : (((W.alloc (.cells Z1 t)).alloc (.cells Z2 u)).setRow W.heap.size (matA m)).heap[W.heap.size + 1]? = some (.cells Z2 u (0, 0)) := (setRow_other _ _ _ _ (by omega)).trans (heap_alloc2_new _ _ _)
  exact ⟨h1.setRow _ (by omega), setRow_heap _ _ _ _ _ _ h2, setRow_below (setRow_below (((Below.refl _ _).alloc (Nat.le_refl _) _).alloc (by simp) _) (Nat.le_refl _)) (by omega)⟩
theorem wpList_let2 {ops : Array Oper} {rest : List Oper} {o1 o2 : Oper} {a : Act} {V : World} {Q : Exit → Act → World → Prop} {Z1 Z2 : Array Value} (hg1 : o1.guard = none) (hg2 : o2.guard = none) (t u : Nat) (x1 y1 x2 y2 : Operand)
    (ho1 : o1.op = .store t x1 y1) (ho2 : o2.op = .store u x2 y2) (hd1 : o1.dst = none) (hd2 : o2.dst = none) (W : World) (m : Mm.Gr) (o : Od.O) (hV : V = (W.alloc (.cells Z1 t)).alloc (.cells Z2 u)) (hx1 : a.eval x1 = .pointer (some ⟨W.heap.size, 0, none⟩)) (hy1 : a.eval y1 = .agg (matA m)) (hx2 : a.eval x2 = .pointer (some ⟨W.heap.size + 1, 0, none⟩)) (hy2 : a.eval y2 = .agg (ordA o))
    (hz1 : Z1.size = 32) (hz2 : Z2.size = 32) (hi1 : (Tryd.prog.info? t).map (·.size) = some 32) (hi2 : (Tryd.prog.info? u).map (·.size) = some 32)
    (h : ∀ W', MatAt W' W.heap.size m t → OrdAt W' (W.heap.size + 1) o u → Below W.heap.size W W' → wpList Tryd.prog ops Q rest a W') : wpList Tryd.prog ops Q (o1 :: o2 :: rest) a V := by
  subst hV
  have h0 := two_new (t := t) (u := u) (W := W) Z1 Z2 m o
  refine wpList_store_row hg1 t x1 y1 ho1 W.heap.size (matA m) hx1 hy1 t Z1 (heap_alloc2_old _ _ _) (by rw [matA_size]; exact hi1) (by rw [hz1, matA_size]) (matA_one _) ?_
  rw [hd1]
  refine wpList_store_row hg2 u x2 y2 ho2 (W.heap.size + 1) (ordA o) hx2 hy2 u Z2 ((setRow_other _ _ _ _ (by omega)).trans (heap_alloc2_new _ _ _)) (by rw [ordA_size]; exact hi2) (by rw [hz2, ordA_size]) (ordA_one _) ?_
  rw [hd2]
  exact h _ h0.1 h0.2.1 h0.2.2
theorem step_store_m {w : World} {ops : Array Oper} {op : Oper} {a : Act} {K : Act → World → Prop} {Q : Exit → Act → World → Prop} {E : Prop} (hgd : op.guard = none) (ty : TypeId) (x y : Operand) (ho : op.op = .store ty x y)
    (g : Nat) (p : Pl) (n : Mm.Gr) (t : Nat) (hx : a.eval x = .pointer (some ⟨g, 1, none⟩)) (hy : a.eval y = .agg (matA n)) (h : PoolAt w g p t) (hi : (Tryd.prog.info? ty).map (·.size) = some 32)
    (hK : K (a.put op.dst undef) (w.setCells g 1 (matA n).toList)) : if Region.wanted op (yielded ops a.tmps) = true then Oper.wp Tryd.prog op a w K Q else E := by
  have hw : Region.wanted op (yielded ops a.tmps) = true := by simp [Region.wanted, hgd]
  rw [if_pos hw]
  exact wp_store_mid ty x y ho g 1 (matA n) hx hy (by rw [matA_size]; exact h.there 1 32 (by omega)) (by rw [matA_size]; exact hi) (matA_one _) hK
theorem step_store_o {w : World} {ops : Array Oper} {op : Oper} {a : Act} {K : Act → World → Prop} {Q : Exit → Act → World → Prop} {E : Prop} (hgd : op.guard = none) (ty : TypeId) (x y : Operand) (ho : op.op = .store ty x y)
    (g : Nat) (p : Pl) (n : Od.O) (t : Nat) (hx : a.eval x = .pointer (some ⟨g, 33, none⟩)) (hy : a.eval y = .agg (ordA n)) (h : PoolAt w g p t) (hi : (Tryd.prog.info? ty).map (·.size) = some 32)
    (hK : K (a.put op.dst undef) (w.setCells g 33 (ordA n).toList)) : if Region.wanted op (yielded ops a.tmps) = true then Oper.wp Tryd.prog op a w K Q else E := by
  have hw : Region.wanted op (yielded ops a.tmps) = true := by simp [Region.wanted, hgd]
  rw [if_pos hw]
  exact wp_store_mid ty x y ho g 33 (ordA n) hx hy (by rw [ordA_size]; exact h.there 33 32 (by omega)) (by rw [ordA_size]; exact hi) (ordA_one _) hK
theorem step_store_pool {w : World} {ops : Array Oper} {op : Oper} {a : Act} {K : Act → World → Prop} {Q : Exit → Act → World → Prop} {E : Prop} (hgd : op.guard = none) (ty : TypeId) (x y : Operand) (ho : op.op = .store ty x y)
    (g : Nat) (p q : Pl) (t : Nat) (hx : a.eval x = .pointer (some ⟨g, 0, none⟩)) (hy : a.eval y = .agg (poolA q)) (h : PoolAt w g p t) (hi : (Tryd.prog.info? ty).map (·.size) = some 100)
    (hK : K (a.put op.dst undef) (w.setRow g (poolA q))) : if Region.wanted op (yielded ops a.tmps) = true then Oper.wp Tryd.prog op a w K Q else E :=
  step_store_row hgd ty x y ho g (poolA q) hx hy t _ h (by rw [poolA_size]; exact hi) (by rw [poolA_size, poolA_size]) (poolA_one _) hK
theorem yields_pool {ops : Array Oper} {S : World → Prop} {op : Oper} {a : Act} (hw : Region.wanted op (yielded ops a.tmps) = true) (ty : TypeId) (x : Operand) (ho : op.op = .load ty x)
    (g : Nat) (hx : a.eval x = .pointer (some ⟨g, 0, none⟩)) (t : Nat) (p : Pl) (d : TypeDesc) (hS : ∀ w, S w → PoolAt w g p t)
    (hu : Tryd.prog.underlying ty = some d) (hd : d.isRow = true) (hi : (Tryd.prog.info? ty).map (·.size) = some 100) : YieldsIf Tryd.prog ops S op (.agg (poolA p)) a :=
  .inl ⟨hw, fun w hw' => by
    unfold execOp
    simp only [ho, hx, Instr.loadAt, Instr.sureAddr, Sem.run_bind, Sem.run_pure, Result.andThen_ok, load_whole w g p t ty d (hS w hw') hu hd hi]⟩
/-- what the last region of Edge holds on to. -/
def ESt (t u v : Nat) (w : World) (q : Pl) (g : Nat) (m : Mm.Gr) (o : Od.O) (W : World) : Prop := (∃ p, QSt p t w q W) ∧ MatAt W g m u ∧ OrdAt W (g + 1) o v
set_option maxHeartbeats 1000000 in
set_option maxRecDepth 100000 in
theorem edge_arg (p : Pl) (a : Int) (w : World) :
    Calls Tryd.prog 26 #[.agg (poolA p), .int .i64 a, .int .i64 a] w fun e w' => e = .returned (.tuple #[.agg (poolA p), .int .i64 2]) ∧ Below w.heap.size w w' := by
  have hz := (zero_of_info zero_pool_info).1
  have H0 := Lib.hid (qst_first p 31 w)
  go_enter Tryd.func26, Tryd.ntmps26
  go_wp2_with (first
    | (refine load_pool rfl 31 (.tmp 3) rfl w.heap.size p 31 rfl _ H0.out.po Tryd.underlying31 rfl pool_info ?_)
    | (refine store_pool rfl 31 (.tmp 6) (.tmp 14) rfl rfl (w.heap.size + 1) _ p 31 rfl rfl H0.out.re pool_info ?_))
  refine bodyPost_ret (results_pool rfl _ _ (w.heap.size + 1) 31 p _ (.int .i64 2) rfl rfl (H0.out.tell p).re Tryd.underlying31 rfl pool_info) rfl ⟨rfl, (H0.out.tell p).bel⟩
set_option maxHeartbeats 2000000 in
set_option maxRecDepth 100000 in
theorem edge_none1 (p : Pl) (a b : Int) (w : World) (hp : p.Ok) (ha : -9223372036854775808 ≤ a ∧ a ≤ 9223372036854775807) (_ : -9223372036854775808 ≤ b ∧ b ≤ 9223372036854775807) (hab : a ≠ b) (h1 : Po.taken p a = false) :
    Calls Tryd.prog 26 #[.agg (poolA p), .int .i64 a, .int .i64 b] w fun e w' => e = .returned (.tuple #[.agg (poolA p), .int .i64 3]) ∧ Below w.heap.size w w' := by
  have hz := (zero_of_info zero_pool_info).1
  have H0 := Lib.hid (qst_first p 31 w)
  have HP := Lib.hid hp
  have HA := Lib.hid h1
  clear hp h1
  go_enter Tryd.func26, Tryd.ntmps26
  go_wp2_with (refine load_pool rfl 31 (.tmp 3) rfl w.heap.size p 31 rfl _ H0.out.po Tryd.underlying31 rfl pool_info ?_)
  refine (taken_val p a false _ HP.out.live HP.out.done ha.1 ha.2 HA.out).mono ?_
  rintro e w1 ⟨rfl, hb1⟩
  have H1 := Lib.hid (H0.out.below hb1)
  clear hb1 H0
  go_wp2_with (first
    | (refine load_pool rfl 31 (.tmp 3) rfl w.heap.size p 31 rfl _ H1.out.po Tryd.underlying31 rfl pool_info ?_)
    | (refine store_pool rfl 31 (.tmp 6) (.tmp 25) rfl rfl (w.heap.size + 1) _ p 31 rfl rfl H1.out.re pool_info ?_))
  refine bodyPost_ret (results_pool rfl _ _ (w.heap.size + 1) 31 p _ (.int .i64 3) rfl rfl (H1.out.tell p).re Tryd.underlying31 rfl pool_info) rfl ⟨rfl, (H1.out.tell p).bel⟩
set_option maxHeartbeats 2000000 in
set_option maxRecDepth 100000 in
theorem edge_none2 (p : Pl) (a b : Int) (w : World) (hp : p.Ok) (ha : -9223372036854775808 ≤ a ∧ a ≤ 9223372036854775807) (hb : -9223372036854775808 ≤ b ∧ b ≤ 9223372036854775807) (hab : a ≠ b) (h1 : Po.taken p a = true) (h2 : Po.taken p b = false) :
    Calls Tryd.prog 26 #[.agg (poolA p), .int .i64 a, .int .i64 b] w fun e w' => e = .returned (.tuple #[.agg (poolA p), .int .i64 3]) ∧ Below w.heap.size w w' := by
  have hz := (zero_of_info zero_pool_info).1
  have H0 := Lib.hid (qst_first p 31 w)
  have HP := Lib.hid hp
  have HA := Lib.hid h1
  have HB := Lib.hid h2
  clear hp h1 h2
  go_enter Tryd.func26, Tryd.ntmps26
  go_wp2_with (refine load_pool rfl 31 (.tmp 3) rfl w.heap.size p 31 rfl _ H0.out.po Tryd.underlying31 rfl pool_info ?_)
  refine (taken_val p a true _ HP.out.live HP.out.done ha.1 ha.2 HA.out).mono ?_
  rintro e w1 ⟨rfl, hb1⟩
  have H1 := Lib.hid (H0.out.below hb1)
  clear hb1 H0
  go_wp2_with (refine load_pool rfl 31 (.tmp 3) rfl w.heap.size p 31 rfl _ H1.out.po Tryd.underlying31 rfl pool_info ?_)
  refine (taken_val p b false _ HP.out.live HP.out.done hb.1 hb.2 HB.out).mono ?_
  rintro e w2 ⟨rfl, hb2⟩
  have H2 := Lib.hid (H1.out.below hb2)
  clear hb2 H1
  go_wp2_with (first
    | (refine load_pool rfl 31 (.tmp 3) rfl w.heap.size p 31 rfl _ H2.out.po Tryd.underlying31 rfl pool_info ?_)
    | (refine store_pool rfl 31 (.tmp 6) (.tmp 25) rfl rfl (w.heap.size + 1) _ p 31 rfl rfl H2.out.re pool_info ?_))
  refine bodyPost_ret (results_pool rfl _ _ (w.heap.size + 1) 31 p _ (.int .i64 3) rfl rfl (H2.out.tell p).re Tryd.underlying31 rfl pool_info) rfl ⟨rfl, (H2.out.tell p).bel⟩
set_option maxHeartbeats 2000000 in
set_option maxRecDepth 100000 in
theorem edge_cycle (p : Pl) (a b : Int) (w : World) (hp : p.Ok) (ha : -9223372036854775808 ≤ a ∧ a ≤ 9223372036854775807) (hb : -9223372036854775808 ≤ b ∧ b ≤ 9223372036854775807) (hab : a ≠ b) (h1 : Po.taken p a = true) (h2 : Po.taken p b = true) (h3 : (Od.insert p.m p.o a b).2.2 = false) (hT : TabAt w) :
    Calls Tryd.prog 26 #[.agg (poolA p), .int .i64 a, .int .i64 b] w fun e w' => e = .returned (.tuple #[.agg (poolA p), .int .i64 5]) ∧ Below w.heap.size w w' := by
  have hz := (zero_of_info zero_pool_info).1
  have H0 := Lib.hid (qst_first p 31 w)
  have HP := Lib.hid hp
  have HA := Lib.hid h1
  have HB := Lib.hid h2
  have HR := Lib.hid h3
  have HT := Lib.hid hT
  clear hp h1 h2 h3 hT
  go_enter Tryd.func26, Tryd.ntmps26
  go_wp2_with (refine load_pool rfl 31 (.tmp 3) rfl w.heap.size p 31 rfl _ H0.out.po Tryd.underlying31 rfl pool_info ?_)
  refine (taken_val p a true _ HP.out.live HP.out.done ha.1 ha.2 HA.out).mono ?_
  rintro e w1 ⟨rfl, hb1⟩
  have H1 := Lib.hid (H0.out.below hb1)
  clear hb1 H0
  go_wp2_with (refine load_pool rfl 31 (.tmp 3) rfl w.heap.size p 31 rfl _ H1.out.po Tryd.underlying31 rfl pool_info ?_)
  refine (taken_val p b true _ HP.out.live HP.out.done hb.1 hb.2 HB.out).mono ?_
  rintro e w2 ⟨rfl, hb2⟩
  have H2 := Lib.hid (H1.out.below hb2)
  clear hb2 H1
  go_wp2_with (first
    | (refine load_m rfl 27 (.tmp 27) rfl w.heap.size p 31 rfl _ H2.out.po Tryd.underlying27 rfl mat_info ?_)
    | (refine load_o rfl 29 (.tmp 29) rfl w.heap.size p 31 rfl _ H2.out.po Tryd.underlying29 rfl ord_info ?_))
  refine (insert_any p.m p.o a b _ HP.out.m HP.out.o ha hb (tab_keep HT.out H2.out.bel)).mono ?_
  rintro e w3 ⟨rfl, hb3⟩
  have H3 := Lib.hid (H2.out.below hb3)
  have HW := Lib.hid (show w.heap.size + 2 ≤ w3.heap.size from H3.out.re.lt)
  clear hb3 H2
  rw [HR.out]
  generalize hX : (Od.insert p.m p.o a b).1 = X
  generalize hO : (Od.insert p.m p.o a b).2.1 = O
  have HX := Lib.hid hX
  have HO := Lib.hid hO
  clear hX hO
  go_wp2_with (first
    | (refine wpList_let2 rfl rfl 27 29 (.tmp 8) (.tmp 34) (.tmp 9) (.tmp 35) rfl rfl rfl rfl w3 X O rfl rfl rfl rfl rfl rfl rfl mat_info ord_info ?_; intro w4 hM hO hB; have H4 := Lib.hid (H3.out.below hB); have HM := Lib.hid hM; have HO4 := Lib.hid hO; clear hM hO hB H3)
    | (refine load_pool rfl 31 (.tmp 3) rfl w.heap.size p 31 rfl _ H4.out.po Tryd.underlying31 rfl pool_info ?_)
    | (refine store_pool rfl 31 (.tmp 6) (.tmp 39) rfl rfl (w.heap.size + 1) _ p 31 rfl rfl H4.out.re pool_info ?_))
  refine bodyPost_ret (results_pool rfl _ _ (w.heap.size + 1) 31 p _ (.int .i64 5) rfl rfl (H4.out.tell p).re Tryd.underlying31 rfl pool_info) rfl ⟨rfl, (H4.out.tell p).bel⟩
end Go.Proofs.YtakoceablbgchaaDoor
