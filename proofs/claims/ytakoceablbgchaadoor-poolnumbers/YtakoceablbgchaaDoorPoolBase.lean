/-
  Pools as plain mathematics, and in memory: the cells of a pool, its loads, its stores.
-/
import Derived.Test.YtakoceablbgchaaDoorTopoBase
import Derived.Laws.StructEq
namespace Go.Proofs.YtakoceablbgchaaDoor
open Go.RowKit
/-- a pool. -/
structure Pl where
  size : Int
  m : Mm.Gr
  o : Od.O
  live : Nat
  done : Nat
  ids : Od.O
  count : Int
/-- what can be held in memory. -/
structure Pl.Ok (p : Pl) : Prop where
  size : -9223372036854775808 ≤ p.size ∧ p.size ≤ 9223372036854775807
  m : Mm.Ok p.m
  o : Od.Ok p.o
  live : p.live < 18446744073709551616
  done : p.done < 18446744073709551616
  ids : Od.Ok p.ids
  count : -9223372036854775808 ≤ p.count ∧ p.count ≤ 9223372036854775807
def cellOf (p : Pl) (i : Nat) : Value :=
  if i = 0 then .int .i64 p.size else if i < 33 then .int .u64 (p.m (i - 1) : Nat) else if i < 65 then .int .i64 (p.o (i - 33)) else if i = 65 then .int .u64 (p.live : Nat) else
  if i = 66 then .int .u64 (p.done : Nat) else if i < 99 then .int .i64 (p.ids (i - 67)) else .int .i64 p.count
def poolA (p : Pl) : Array Value := ((List.range 100).map (cellOf p)).toArray
theorem poolA_size (p : Pl) : (poolA p).size = 100 := by simp [poolA]
theorem poolA_get (p : Pl) (i : Nat) (h : i < 100) : (poolA p)[i]? = some (cellOf p i) := by simp [poolA, h]
theorem poolA_eq {p : Pl} {cs : Array Value} (hs : cs.size = 100) (h : ∀ i, i < 100 → cs[i]? = some (cellOf p i)) : cs = poolA p := by
  apply Array.ext_getElem?
  intro i
  by_cases hi : i < 100
  · rw [poolA_get p i hi, h i hi]
  · rw [Array.getElem?_eq_none (by omega), Array.getElem?_eq_none (by rw [poolA_size]; omega)]
theorem cell_size (p : Pl) : cellOf p 0 = .int .i64 p.size := rfl
theorem cell_m (p : Pl) (i : Nat) (h : i < 32) : cellOf p (1 + i) = .int .u64 (p.m i : Nat) := by
  unfold cellOf; rw [if_neg (by omega), if_pos (by omega), Nat.add_sub_cancel_left]
theorem cell_o (p : Pl) (i : Nat) (h : i < 32) : cellOf p (33 + i) = .int .i64 (p.o i) := by
  unfold cellOf; rw [if_neg (by omega), if_neg (by omega), if_pos (by omega), Nat.add_sub_cancel_left]
theorem cell_live (p : Pl) : cellOf p 65 = .int .u64 (p.live : Nat) := rfl
theorem cell_done (p : Pl) : cellOf p 66 = .int .u64 (p.done : Nat) := rfl
theorem cell_ids (p : Pl) (i : Nat) (h : i < 32) : cellOf p (67 + i) = .int .i64 (p.ids i) := by
  unfold cellOf; rw [if_neg (by omega), if_neg (by omega), if_neg (by omega), if_neg (by omega), if_neg (by omega), if_pos (by omega), Nat.add_sub_cancel_left]
theorem cell_count (p : Pl) : cellOf p 99 = .int .i64 p.count := rfl
theorem cellOf_one (p : Pl) (i : Nat) : (cellOf p i).oneCell' = true := by
  unfold cellOf; split; rfl; split; rfl; split; rfl; split; rfl; split; rfl; split <;> rfl
theorem poolA_one (p : Pl) : (poolA p).all (·.oneCell') = true := by
  rw [Array.all_eq_true]
  intro i hi
  rw [poolA_size] at hi
  have := poolA_get p i hi
  rw [Array.getElem?_eq_getElem (by rw [poolA_size]; exact hi)] at this
  injection this with this
  rw [this]; exact cellOf_one p i
/-- two pools that hold the same. -/
structure Pl.Same (p q : Pl) : Prop where
  size : p.size = q.size
  m : ∀ i, i < 32 → p.m i = q.m i
  o : ∀ i, i < 32 → p.o i = q.o i
  live : p.live = q.live
  done : p.done = q.done
  ids : ∀ i, i < 32 → p.ids i = q.ids i
  count : p.count = q.count
theorem poolA_ext {p q : Pl} (h : p.Same q) : poolA p = poolA q := by
  refine poolA_eq (poolA_size p) fun i hi => ?_
  rw [poolA_get p i hi]
  unfold cellOf
  by_cases h0 : i = 0
  · simp [h0, h.size]
  by_cases h1 : i < 33
  · simp [h0, h1, h.m (i - 1) (by omega)]
  by_cases h2 : i < 65
  · simp [h0, h1, h2, h.o (i - 33) (by omega)]
  by_cases h3 : i = 65
  · simp [h3, h.live]
  by_cases h4 : i = 66
  · simp [h4, h.done]
  by_cases h5 : i < 99
  · simp [h0, h1, h2, h3, h4, h5, h.ids (i - 67) (by omega)]
  · simp [h0, h1, h2, h3, h4, h5, h.count]
theorem cell_up {p q : Pl} {i : Nat} (hi : i < 100) (h0 : i = 0 → p.size = q.size) (h1 : ∀ j, j < 32 → i = 1 + j → p.m j = q.m j) (h2 : ∀ j, j < 32 → i = 33 + j → p.o j = q.o j)
    (h3 : i = 65 → p.live = q.live) (h4 : i = 66 → p.done = q.done) (h5 : ∀ j, j < 32 → i = 67 + j → p.ids j = q.ids j) (h6 : i = 99 → p.count = q.count) : cellOf p i = cellOf q i := by
  unfold cellOf
  by_cases c0 : i = 0
  · simp [c0, h0 c0]
  by_cases c1 : i < 33
  · simp [c0, c1, h1 (i - 1) (by omega) (by omega)]
  by_cases c2 : i < 65
  · simp [c0, c1, c2, h2 (i - 33) (by omega) (by omega)]
  by_cases c3 : i = 65
  · simp [c3, h3 c3]
  by_cases c4 : i = 66
  · simp [c4, h4 c4]
  by_cases c5 : i < 99
  · simp [c0, c1, c2, c3, c4, c5, h5 (i - 67) (by omega) (by omega)]
  · simp [c0, c1, c2, c3, c4, c5, h6 (by omega)]
theorem poolA_set {p q : Pl} {k : Nat} {v : Value} (hk : k < 100) (hv : cellOf q k = v) (h : ∀ i, i < 100 → i ≠ k → cellOf p i = cellOf q i) : (poolA p).setIfInBounds k v = poolA q := by
  refine poolA_eq (by simp [poolA_size]) fun i hi => ?_
  rw [Array.getElem?_setIfInBounds, poolA_get p i hi, poolA_size]
  by_cases e : k = i
  · subst e; simp [hk, hv]
  · simp [e, h i hi (fun x => e x.symm)]
theorem pool_set_live (p : Pl) (x : Nat) : (poolA p).setIfInBounds 65 (.int .u64 (x : Nat)) = poolA { p with live := x } :=
  poolA_set (by omega) rfl fun i hi hk => cell_up hi (fun _ => rfl) (fun _ _ _ => rfl) (fun _ _ _ => rfl) (fun e => absurd e hk) (fun _ => rfl) (fun _ _ _ => rfl) (fun _ => rfl)
theorem pool_set_done (p : Pl) (x : Nat) : (poolA p).setIfInBounds 66 (.int .u64 (x : Nat)) = poolA { p with done := x } :=
  poolA_set (by omega) rfl fun i hi hk => cell_up hi (fun _ => rfl) (fun _ _ _ => rfl) (fun _ _ _ => rfl) (fun _ => rfl) (fun e => absurd e hk) (fun _ _ _ => rfl) (fun _ => rfl)
theorem pool_set_count (p : Pl) (x : Int) : (poolA p).setIfInBounds 99 (.int .i64 x) = poolA { p with count := x } :=
  poolA_set (by omega) rfl fun i hi hk => cell_up hi (fun _ => rfl) (fun _ _ _ => rfl) (fun _ _ _ => rfl) (fun _ => rfl) (fun _ => rfl) (fun _ _ _ => rfl) (fun e => absurd e hk)
theorem pool_set_id (p : Pl) (k : Nat) (x : Int) (hk : k < 32) : (poolA p).setIfInBounds (67 + k) (.int .i64 x) = poolA { p with ids := Od.upd p.ids k x } :=
  poolA_set (by omega) (by rw [cell_ids _ k hk]; simp [Od.upd]) fun i hi hne => cell_up hi (fun _ => rfl) (fun _ _ _ => rfl) (fun _ _ _ => rfl) (fun _ => rfl) (fun _ => rfl) (fun j _ e => by
    have : j ≠ k := fun x => hne (by omega)
    simp [Od.upd, this]) (fun _ => rfl)
/- in memory -/
theorem pool_info : (Tryd.prog.info? 31).map (·.size) = some 100 := by kernel_rfl
theorem poolInfo (p : Pl) : (Tryd.prog.info? 31).map (·.size) = some (poolA p).size := by rw [poolA_size]; exact pool_info
theorem rpool_info : (Tryd.prog.info? 38).map (·.size) = some 100 := by kernel_rfl
theorem rpoolInfo (p : Pl) : (Tryd.prog.info? 38).map (·.size) = some (poolA p).size := by rw [poolA_size]; exact rpool_info
def PoolAt (w : World) (g : Nat) (p : Pl) (t : Nat) : Prop := w.heap[g]? = some (.cells (poolA p) t (0, 0))
section
variable {w : World} {g : Nat} {p : Pl} {t : Nat}
theorem PoolAt.cell (h : PoolAt w g p t) (i : Nat) (hi : i < 100) : w.cell? ⟨g, i, none⟩ = some (cellOf p i) := by
  rw [cell_of_row _ _ _ _ _ _ h, poolA_get p i hi]
theorem PoolAt.frozen (h : PoolAt w g p t) (i : Nat) : w.frozen? ⟨g, i, none⟩ = false := frozen_of_row h
theorem PoolAt.size_ (h : PoolAt w g p t) : w.cell? ⟨g, 0, none⟩ = some (.int .i64 p.size) := h.cell 0 (by decide)
theorem PoolAt.live_ (h : PoolAt w g p t) : w.cell? ⟨g, 65, none⟩ = some (.int .u64 (p.live : Nat)) := h.cell 65 (by decide)
theorem PoolAt.done_ (h : PoolAt w g p t) : w.cell? ⟨g, 66, none⟩ = some (.int .u64 (p.done : Nat)) := h.cell 66 (by decide)
theorem PoolAt.count_ (h : PoolAt w g p t) : w.cell? ⟨g, 99, none⟩ = some (.int .i64 p.count) := h.cell 99 (by decide)
theorem PoolAt.id_ (h : PoolAt w g p t) (k : Nat) (hk : k < 32) : w.cell? ⟨g, 67 + k, none⟩ = some (.int .i64 (p.ids k)) := by rw [h.cell (67 + k) (by omega), cell_ids p k hk]
theorem PoolAt.lt (h : PoolAt w g p t) : g < w.heap.size := (Array.getElem?_eq_some_iff.1 h).1
theorem PoolAt.below {w' : World} (h : PoolAt w g p t) (hb : Below w.heap.size w w') : PoolAt w' g p t := (hb.block g h.lt).trans h
theorem PoolAt.alloc (h : PoolAt w g p t) (ob : Obj) : PoolAt (w.alloc ob) g p t := (Below.heap_alloc w ob g h.lt).trans h
theorem PoolAt.setRow {k : Nat} (h : PoolAt w g p t) (cs : Array Value) (hk : g ≠ k) : PoolAt (w.setRow k cs) g p t := (setRow_other w k g cs hk).trans h
theorem PoolAt.setCell (h : PoolAt w g p t) (a : Addr) (v : Value) (hk : g ≠ a.block) : PoolAt (w.setCell a v) g p t := (Below.heap_setCell w a v g hk).trans h
theorem poolAt_new (w : World) (p : Pl) (t : Nat) : PoolAt (w.alloc (.cells (poolA p) t)) w.heap.size p t := heap_alloc_new w _
theorem poolAt_put {q : Pl} (h : PoolAt w g p t) : PoolAt (w.setRow g (poolA q)) g q t := setRow_heap _ _ _ _ _ _ h
theorem poolAt_live {x : Nat} (h : PoolAt w g p t) : PoolAt (w.setCell ⟨g, 65, none⟩ (.int .u64 (x : Nat))) g { p with live := x } t := by unfold PoolAt; rw [heap_set h, pool_set_live]
theorem poolAt_done {x : Nat} (h : PoolAt w g p t) : PoolAt (w.setCell ⟨g, 66, none⟩ (.int .u64 (x : Nat))) g { p with done := x } t := by unfold PoolAt; rw [heap_set h, pool_set_done]
theorem poolAt_count {x : Int} (h : PoolAt w g p t) : PoolAt (w.setCell ⟨g, 99, none⟩ (.int .i64 x)) g { p with count := x } t := by unfold PoolAt; rw [heap_set h, pool_set_count]
theorem poolAt_id {k : Nat} {x : Int} (h : PoolAt w g p t) (hk : k < 32) : PoolAt (w.setCell ⟨g, 67 + k, none⟩ (.int .i64 x)) g { p with ids := Od.upd p.ids k x } t := by unfold PoolAt; rw [heap_set h, pool_set_id _ _ _ hk]
theorem PoolAt.ext {q : Pl} (h : PoolAt w g p t) (e : p.Same q) : PoolAt w g q t := by unfold PoolAt; rw [← poolA_ext e]; exact h
theorem PoolAt.range_m (h : PoolAt w g p t) : w.rangeAt g 1 (matA p.m).toList := fun j v hv => by
  rw [Array.getElem?_toList] at hv
  have hj : j < 32 := by rw [← matA_size p.m]; exact (Array.getElem?_eq_some_iff.1 hv).1
  rw [matA_get _ j hj] at hv
  rw [h.cell (1 + j) (by omega), cell_m p j hj, hv]
theorem PoolAt.range_o (h : PoolAt w g p t) : w.rangeAt g 33 (ordA p.o).toList := fun j v hv => by
  rw [Array.getElem?_toList] at hv
  have hj : j < 32 := by rw [← ordA_size p.o]; exact (Array.getElem?_eq_some_iff.1 hv).1
  rw [ordA_get _ j hj] at hv
  rw [h.cell (33 + j) (by omega), cell_o p j hj, hv]
theorem PoolAt.range_ids (h : PoolAt w g p t) : w.rangeAt g 67 (ordA p.ids).toList := fun j v hv => by
  rw [Array.getElem?_toList] at hv
  have hj : j < 32 := by rw [← ordA_size p.ids]; exact (Array.getElem?_eq_some_iff.1 hv).1
  rw [ordA_get _ j hj] at hv
  rw [h.cell (67 + j) (by omega), cell_ids p j hj, hv]
theorem heap_setCells (b : Nat) : ∀ (vs : List Value) (o : Nat) (w : World) (cs : Array Value) (t : Nat) (fr : Nat × Nat), w.heap[b]? = some (.cells cs t fr) →
    ∃ ds : Array Value, (w.setCells b o vs).heap[b]? = some (.cells ds t fr) ∧ ds.size = cs.size ∧ ∀ i, ds[i]? = if o ≤ i ∧ i < o + vs.length ∧ i < cs.size then vs[i - o]? else cs[i]?
  | [], o, w, cs, t, fr, h => ⟨cs, h, rfl, fun i => by rw [if_neg (by simp; omega)]⟩
  | v :: r, o, w, cs, t, fr, h => by
    obtain ⟨ds, h1, h2, h3⟩ := heap_setCells b r (o + 1) (w.setCell ⟨b, o, none⟩ v) (cs.setIfInBounds o v) t fr (heap_set h)
    refine ⟨ds, h1, by simpa using h2, fun i => ?_⟩
    rw [h3 i, Array.size_setIfInBounds, Array.getElem?_setIfInBounds]
    by_cases e : o = i
    · subst e
      by_cases hs : o < cs.size
      · rw [if_neg (by omega), if_pos rfl, if_pos hs, if_pos (by simp; omega), Nat.sub_self]; rfl
      · simp [hs]
    · by_cases c : o + 1 ≤ i ∧ i < o + 1 + r.length ∧ i < cs.size
      · rw [if_pos c, if_pos (by simp; omega), show i - o = (i - (o + 1)) + 1 by omega, List.getElem?_cons_succ]
      · rw [if_neg c, if_neg e, if_neg (by simp; omega)]
theorem heap_setCells_other (b k : Nat) (hk : k ≠ b) : ∀ (vs : List Value) (o : Nat) (w : World), (w.setCells b o vs).heap[k]? = w.heap[k]?
  | [], _, _ => rfl
  | v :: r, o, w => by rw [World.setCells, heap_setCells_other b k hk r, Below.heap_setCell w ⟨b, o, none⟩ v k hk]
theorem setCells_below {a : World} {B : Nat} (b : Nat) (hB : B ≤ b) : ∀ (vs : List Value) (o : Nat) (w : World), Below B a w → Below B a (w.setCells b o vs)
  | [], _, _, h => h
  | _ :: r, o, _, h => setCells_below b hB r (o + 1) _ (h.setCell hB _)
theorem poolAt_m {n : Mm.Gr} (h : PoolAt w g p t) : PoolAt (w.setCells g 1 (matA n).toList) g { p with m := n } t := by
  obtain ⟨ds, h1, h2, h3⟩ := heap_setCells g (matA n).toList 1 w _ _ _ h
  unfold PoolAt
  have e : ds = poolA { p with m := n } := by
    refine poolA_eq (by rw [h2, poolA_size]) fun i hi => ?_
    rw [h3 i, poolA_size, Array.length_toList, matA_size, Array.getElem?_toList]
    by_cases c : 1 ≤ i ∧ i < 33
    · rw [if_pos (by omega), matA_get _ _ (by omega)]
      obtain ⟨j, rfl⟩ : ∃ j, i = 1 + j := ⟨i - 1, by omega⟩
      rw [cell_m _ j (by omega), Nat.add_sub_cancel_left]
    · rw [if_neg (by omega), poolA_get p i hi]
      exact congrArg some (cell_up hi (fun _ => rfl) (fun j hj e => by omega) (fun _ _ _ => rfl) (fun _ => rfl) (fun _ => rfl) (fun _ _ _ => rfl) (fun _ => rfl))
  rw [h1, e]
theorem poolAt_o {n : Od.O} (h : PoolAt w g p t) : PoolAt (w.setCells g 33 (ordA n).toList) g { p with o := n } t := by
  obtain ⟨ds, h1, h2, h3⟩ := heap_setCells g (ordA n).toList 33 w _ _ _ h
  unfold PoolAt
  have e : ds = poolA { p with o := n } := by
    refine poolA_eq (by rw [h2, poolA_size]) fun i hi => ?_
    rw [h3 i, poolA_size, Array.length_toList, ordA_size, Array.getElem?_toList]
    by_cases c : 33 ≤ i ∧ i < 65
    · rw [if_pos (by omega), ordA_get _ _ (by omega)]
      obtain ⟨j, rfl⟩ : ∃ j, i = 33 + j := ⟨i - 33, by omega⟩
      rw [cell_o _ j (by omega), Nat.add_sub_cancel_left]
    · rw [if_neg (by omega), poolA_get p i hi]
      exact congrArg some (cell_up hi (fun _ => rfl) (fun _ _ _ => rfl) (fun j hj e => by omega) (fun _ => rfl) (fun _ => rfl) (fun _ _ _ => rfl) (fun _ => rfl))
  rw [h1, e]
theorem PoolAt.there (h : PoolAt w g p t) (o n : Nat) (ho : o + n ≤ 100) : w.there g o n := fun j hj => ⟨by rw [h.cell (o + j) (by omega)]; rfl, h.frozen _⟩
end
/- the walk's steps -/
theorem load_m {ops : Array Oper} {rest : List Oper} {op : Oper} {a : Act} {w : World} {Q : Exit → Act → World → Prop} (hw : Region.wanted op (yielded ops a.tmps) = true) (ty : TypeId) (x : Operand) (ho : op.op = .load ty x)
    (g : Nat) (p : Pl) (t : Nat) (hx : a.eval x = .pointer (some ⟨g, 1, none⟩)) (d : TypeDesc) (h : PoolAt w g p t) (hu : Tryd.prog.underlying ty = some d) (hd : d.isRow = true) (hi : (Tryd.prog.info? ty).map (·.size) = some 32)
    (hK : wpList Tryd.prog ops Q rest (a.put op.dst (.agg (matA p.m))) w) : wpList Tryd.prog ops Q (op :: rest) a w :=
  wpList_step fun _ hK' => by rw [if_pos hw]; exact wp_load_mid ty x ho g 1 hx (matA p.m).toList d h.range_m hu hd (by simpa [matA_size] using hi) (hK' _ _ hK)
theorem load_o {ops : Array Oper} {rest : List Oper} {op : Oper} {a : Act} {w : World} {Q : Exit → Act → World → Prop} (hw : Region.wanted op (yielded ops a.tmps) = true) (ty : TypeId) (x : Operand) (ho : op.op = .load ty x)
    (g : Nat) (p : Pl) (t : Nat) (hx : a.eval x = .pointer (some ⟨g, 33, none⟩)) (d : TypeDesc) (h : PoolAt w g p t) (hu : Tryd.prog.underlying ty = some d) (hd : d.isRow = true) (hi : (Tryd.prog.info? ty).map (·.size) = some 32)
    (hK : wpList Tryd.prog ops Q rest (a.put op.dst (.agg (ordA p.o))) w) : wpList Tryd.prog ops Q (op :: rest) a w :=
  wpList_step fun _ hK' => by rw [if_pos hw]; exact wp_load_mid ty x ho g 33 hx (ordA p.o).toList d h.range_o hu hd (by simpa [ordA_size] using hi) (hK' _ _ hK)
theorem load_ids {ops : Array Oper} {rest : List Oper} {op : Oper} {a : Act} {w : World} {Q : Exit → Act → World → Prop} (hw : Region.wanted op (yielded ops a.tmps) = true) (ty : TypeId) (x : Operand) (ho : op.op = .load ty x)
    (g : Nat) (p : Pl) (t : Nat) (hx : a.eval x = .pointer (some ⟨g, 67, none⟩)) (d : TypeDesc) (h : PoolAt w g p t) (hu : Tryd.prog.underlying ty = some d) (hd : d.isRow = true) (hi : (Tryd.prog.info? ty).map (·.size) = some 32)
    (hK : wpList Tryd.prog ops Q rest (a.put op.dst (.agg (ordA p.ids))) w) : wpList Tryd.prog ops Q (op :: rest) a w :=
  wpList_step fun _ hK' => by rw [if_pos hw]; exact wp_load_mid ty x ho g 67 hx (ordA p.ids).toList d h.range_ids hu hd (by simpa [ordA_size] using hi) (hK' _ _ hK)
theorem load_pool {ops : Array Oper} {rest : List Oper} {op : Oper} {a : Act} {w : World} {Q : Exit → Act → World → Prop} (hw : Region.wanted op (yielded ops a.tmps) = true) (ty : TypeId) (x : Operand) (ho : op.op = .load ty x)
    (g : Nat) (p : Pl) (t : Nat) (hx : a.eval x = .pointer (some ⟨g, 0, none⟩)) (d : TypeDesc) (h : PoolAt w g p t) (hu : Tryd.prog.underlying ty = some d) (hd : d.isRow = true) (hi : (Tryd.prog.info? ty).map (·.size) = some 100)
    (hK : wpList Tryd.prog ops Q rest (a.put op.dst (.agg (poolA p))) w) : wpList Tryd.prog ops Q (op :: rest) a w :=
  wpList_step fun _ hK' => by
    rw [if_pos hw]
    exact wp_load_mid ty x ho g 0 hx (poolA p).toList d (fun j v hv => by rw [Nat.zero_add]; rw [Array.getElem?_toList] at hv; rw [cell_of_row _ _ _ _ _ _ h, hv]) hu hd (by simpa [poolA_size] using hi) (hK' _ _ hK)
theorem store_pool {ops : Array Oper} {rest : List Oper} {op : Oper} {a : Act} {w : World} {Q : Exit → Act → World → Prop} (hgd : op.guard = none) (ty : TypeId) (x y : Operand) (ho : op.op = .store ty x y) (hds : op.dst = none)
    (g : Nat) (p q : Pl) (t : Nat) (hx : a.eval x = .pointer (some ⟨g, 0, none⟩)) (hy : a.eval y = .agg (poolA q)) (h : PoolAt w g p t) (hi : (Tryd.prog.info? ty).map (·.size) = some 100)
    (hK : wpList Tryd.prog ops Q rest a (w.setRow g (poolA q))) : wpList Tryd.prog ops Q (op :: rest) a w :=
  wpList_store_row hgd ty x y ho g (poolA q) hx hy t _ h (by rw [poolA_size]; exact hi) (by rw [poolA_size, poolA_size]) (poolA_one _) (by rw [hds]; exact hK)
theorem store_m {ops : Array Oper} {rest : List Oper} {op : Oper} {a : Act} {w : World} {Q : Exit → Act → World → Prop} (hgd : op.guard = none) (ty : TypeId) (x y : Operand) (ho : op.op = .store ty x y) (hds : op.dst = none)
    (g : Nat) (p : Pl) (n : Mm.Gr) (t : Nat) (hx : a.eval x = .pointer (some ⟨g, 1, none⟩)) (hy : a.eval y = .agg (matA n)) (h : PoolAt w g p t) (hi : (Tryd.prog.info? ty).map (·.size) = some 32)
    (hK : wpList Tryd.prog ops Q rest a (w.setCells g 1 (matA n).toList)) : wpList Tryd.prog ops Q (op :: rest) a w :=
  wpList_store_mid hgd ty x y ho g 1 (matA n) hx hy (by rw [matA_size]; exact h.there 1 32 (by omega)) (by rw [matA_size]; exact hi) (matA_one _) (by rw [hds]; exact hK)
theorem store_o {ops : Array Oper} {rest : List Oper} {op : Oper} {a : Act} {w : World} {Q : Exit → Act → World → Prop} (hgd : op.guard = none) (ty : TypeId) (x y : Operand) (ho : op.op = .store ty x y) (hds : op.dst = none)
    (g : Nat) (p : Pl) (n : Od.O) (t : Nat) (hx : a.eval x = .pointer (some ⟨g, 33, none⟩)) (hy : a.eval y = .agg (ordA n)) (h : PoolAt w g p t) (hi : (Tryd.prog.info? ty).map (·.size) = some 32)
    (hK : wpList Tryd.prog ops Q rest a (w.setCells g 33 (ordA n).toList)) : wpList Tryd.prog ops Q (op :: rest) a w :=
  wpList_store_mid hgd ty x y ho g 33 (ordA n) hx hy (by rw [ordA_size]; exact h.there 33 32 (by omega)) (by rw [ordA_size]; exact hi) (ordA_one _) (by rw [hds]; exact hK)
/- zero, and built -/
def zeroP : Pl := ⟨0, zeroM, zeroO, 0, 0, zeroO, 0⟩
theorem zeroP_row : poolA zeroP = ((List.replicate 1 (Value.int .i64 0)) ++ (List.replicate 32 (Value.int .u64 0)) ++ (List.replicate 32 (Value.int .i64 0)) ++ (List.replicate 2 (Value.int .u64 0)) ++ (List.replicate 33 (Value.int .i64 0))).toArray := by kernel_rfl
theorem zero_pool_info : (Tryd.prog.info? 31).map (fun i => (i.zero, i.size)) = some (some (.agg (poolA zeroP)), 100) := by kernel_rfl
theorem zero_rpool_info : (Tryd.prog.info? 38).map (fun i => (i.zero, i.size)) = some (some (.agg (poolA zeroP)), 100) := by kernel_rfl
end Go.Proofs.YtakoceablbgchaaDoor
