/-
  Pools as plain mathematics, and in memory: the cells of a pool, its loads, its stores.
  Pools as plain mathematics: what each call makes of a pool; what is sound stays so. Nothing of the program.
  What is shown of pools beyond that they stay sound: what goes, goes by a way; if nothing is live everything goes; who begins stands behind what is over.
-/
import Derived.Test.YtfdfiiocccafkaaGreatDoorJMat
import Derived.Laws.StructEq
namespace Go.Proofs.YtfdfiiocccafkaaGreatDoor
open Go.RowKit
/-- a pool. -/
structure Pl where
  size : Int
  m : Mm.Gr
  o : Od.O
  live : Nat
  done : Nat
  ids : Od.O
  count : Int
/-- what can be held in memory. -/
structure Pl.Ok (p : Pl) : Prop where
  size : -9223372036854775808 ≤ p.size ∧ p.size ≤ 9223372036854775807
  m : Mm.Ok p.m
  o : Od.Ok p.o
  live : p.live < 18446744073709551616
  done : p.done < 18446744073709551616
  ids : Od.Ok p.ids
  count : -9223372036854775808 ≤ p.count ∧ p.count ≤ 9223372036854775807
def cellOf (p : Pl) (i : Nat) : Value :=
  if i = 0 then .int .i64 p.size else if i < 33 then .int .u64 (p.m (i - 1) : Nat) else if i < 65 then .int .i64 (p.o (i - 33)) else if i = 65 then .int .u64 (p.live : Nat) else
  if i = 66 then .int .u64 (p.done : Nat) else if i < 99 then .int .i64 (p.ids (i - 67)) else .int .i64 p.count
def poolA (p : Pl) : Array Value := ((List.range 100).map (cellOf p)).toArray
theorem poolA_size (p : Pl) : (poolA p).size = 100 := by simp [poolA]
theorem poolA_get (p : Pl) (i : Nat) (h : i < 100) : (poolA p)[i]? = some (cellOf p i) := by simp [poolA, h]
theorem poolA_eq {p : Pl} {cs : Array Value} (hs : cs.size = 100) (h : ∀ i, i < 100 → cs[i]? = some (cellOf p i)) : cs = poolA p := by
  apply Array.ext_getElem?
  intro i
  by_cases hi : i < 100
  · rw [poolA_get p i hi, h i hi]
  · rw [Array.getElem?_eq_none (by omega), Array.getElem?_eq_none (by rw [poolA_size]; omega)]
theorem cell_size (p : Pl) : cellOf p 0 = .int .i64 p.size := rfl
theorem cell_m (p : Pl) (i : Nat) (h : i < 32) : cellOf p (1 + i) = .int .u64 (p.m i : Nat) := by
  unfold cellOf; rw [if_neg (by omega), if_pos (by omega), Nat.add_sub_cancel_left]
theorem cell_o (p : Pl) (i : Nat) (h : i < 32) : cellOf p (33 + i) = .int .i64 (p.o i) := by
  unfold cellOf; rw [if_neg (by omega), if_neg (by omega), if_pos (by omega), Nat.add_sub_cancel_left]
theorem cell_live (p : Pl) : cellOf p 65 = .int .u64 (p.live : Nat) := rfl
theorem cell_done (p : Pl) : cellOf p 66 = .int .u64 (p.done : Nat) := rfl
theorem cell_ids (p : Pl) (i : Nat) (h : i < 32) : cellOf p (67 + i) = .int .i64 (p.ids i) := by
  unfold cellOf; rw [if_neg (by omega), if_neg (by omega), if_neg (by omega), if_neg (by omega), if_neg (by omega), if_pos (by omega), Nat.add_sub_cancel_left]
theorem cell_count (p : Pl) : cellOf p 99 = .int .i64 p.count := rfl
theorem cellOf_one (p : Pl) (i : Nat) : (cellOf p i).oneCell' = true := by
  unfold cellOf; split; rfl; split; rfl; split; rfl; split; rfl; split; rfl; split <;> rfl
theorem poolA_one (p : Pl) : (poolA p).all (·.oneCell') = true := by
  rw [Array.all_eq_true]
  intro i hi
  rw [poolA_size] at hi
  have := poolA_get p i hi
  rw [Array.getElem?_eq_getElem (by rw [poolA_size]; exact hi)] at this
  injection this with this
  rw [this]; exact cellOf_one p i
/-- two pools that hold the same. -/
structure Pl.Same (p q : Pl) : Prop where
  size : p.size = q.size
  m : ∀ i, i < 32 → p.m i = q.m i
  o : ∀ i, i < 32 → p.o i = q.o i
  live : p.live = q.live
  done : p.done = q.done
  ids : ∀ i, i < 32 → p.ids i = q.ids i
  count : p.count = q.count
theorem poolA_ext {p q : Pl} (h : p.Same q) : poolA p = poolA q := by
  refine poolA_eq (poolA_size p) fun i hi => ?_
  rw [poolA_get p i hi]
  unfold cellOf
  by_cases h0 : i = 0
  · simp [h0, h.size]
  by_cases h1 : i < 33
  · simp [h0, h1, h.m (i - 1) (by omega)]
  by_cases h2 : i < 65
  · simp [h0, h1, h2, h.o (i - 33) (by omega)]
  by_cases h3 : i = 65
  · simp [h3, h.live]
  by_cases h4 : i = 66
  · simp [h4, h.done]
  by_cases h5 : i < 99
  · simp [h0, h1, h2, h3, h4, h5, h.ids (i - 67) (by omega)]
  · simp [h0, h1, h2, h3, h4, h5, h.count]
theorem cell_up {p q : Pl} {i : Nat} (hi : i < 100) (h0 : i = 0 → p.size = q.size) (h1 : ∀ j, j < 32 → i = 1 + j → p.m j = q.m j) (h2 : ∀ j, j < 32 → i = 33 + j → p.o j = q.o j)
    (h3 : i = 65 → p.live = q.live) (h4 : i = 66 → p.done = q.done) (h5 : ∀ j, j < 32 → i = 67 + j → p.ids j = q.ids j) (h6 : i = 99 → p.count = q.count) : cellOf p i = cellOf q i := by
  unfold cellOf
  by_cases c0 : i = 0
  · simp [c0, h0 c0]
  by_cases c1 : i < 33
  · simp [c0, c1, h1 (i - 1) (by omega) (by omega)]
  by_cases c2 : i < 65
  · simp [c0, c1, c2, h2 (i - 33) (by omega) (by omega)]
  by_cases c3 : i = 65
  · simp [c3, h3 c3]
  by_cases c4 : i = 66
  · simp [c4, h4 c4]
  by_cases c5 : i < 99
  · simp [c0, c1, c2, c3, c4, c5, h5 (i - 67) (by omega) (by omega)]
  · simp [c0, c1, c2, c3, c4, c5, h6 (by omega)]
theorem poolA_set {p q : Pl} {k : Nat} {v : Value} (hk : k < 100) (hv : cellOf q k = v) (h : ∀ i, i < 100 → i ≠ k → cellOf p i = cellOf q i) : (poolA p).setIfInBounds k v = poolA q := by
  refine poolA_eq (by simp [poolA_size]) fun i hi => ?_
  rw [Array.getElem?_setIfInBounds, poolA_get p i hi, poolA_size]
  by_cases e : k = i
  · subst e; simp [hk, hv]
  · simp [e, h i hi (fun x => e x.symm)]
theorem pool_set_live (p : Pl) (x : Nat) : (poolA p).setIfInBounds 65 (.int .u64 (x : Nat)) = poolA { p with live := x } :=
  poolA_set (by omega) rfl fun i hi hk => cell_up hi (fun _ => rfl) (fun _ _ _ => rfl) (fun _ _ _ => rfl) (fun e => absurd e hk) (fun _ => rfl) (fun _ _ _ => rfl) (fun _ => rfl)
theorem pool_set_done (p : Pl) (x : Nat) : (poolA p).setIfInBounds 66 (.int .u64 (x : Nat)) = poolA { p with done := x } :=
  poolA_set (by omega) rfl fun i hi hk => cell_up hi (fun _ => rfl) (fun _ _ _ => rfl) (fun _ _ _ => rfl) (fun _ => rfl) (fun e => absurd e hk) (fun _ _ _ => rfl) (fun _ => rfl)
theorem pool_set_count (p : Pl) (x : Int) : (poolA p).setIfInBounds 99 (.int .i64 x) = poolA { p with count := x } :=
  poolA_set (by omega) rfl fun i hi hk => cell_up hi (fun _ => rfl) (fun _ _ _ => rfl) (fun _ _ _ => rfl) (fun _ => rfl) (fun _ => rfl) (fun _ _ _ => rfl) (fun e => absurd e hk)
theorem pool_set_id (p : Pl) (k : Nat) (x : Int) (hk : k < 32) : (poolA p).setIfInBounds (67 + k) (.int .i64 x) = poolA { p with ids := Od.upd p.ids k x } :=
  poolA_set (by omega) (by rw [cell_ids _ k hk]; simp [Od.upd]) fun i hi hne => cell_up hi (fun _ => rfl) (fun _ _ _ => rfl) (fun _ _ _ => rfl) (fun _ => rfl) (fun _ => rfl) (fun j _ e => by
    have : j ≠ k := fun x => hne (by omega)
    simp [Od.upd, this]) (fun _ => rfl)
/- in memory -/
theorem pool_info : (Tryz.prog.info? 87).map (·.size) = some 100 := by kernel_rfl
theorem poolInfo (p : Pl) : (Tryz.prog.info? 87).map (·.size) = some (poolA p).size := by rw [poolA_size]; exact pool_info
theorem rpool_info : (Tryz.prog.info? 52).map (·.size) = some 100 := by kernel_rfl
theorem rpoolInfo (p : Pl) : (Tryz.prog.info? 52).map (·.size) = some (poolA p).size := by rw [poolA_size]; exact rpool_info
def PoolAt (w : World) (g : Nat) (p : Pl) (t : Nat) : Prop := w.heap[g]? = some (.cells (poolA p) t (0, 0))
section
variable {w : World} {g : Nat} {p : Pl} {t : Nat}
theorem PoolAt.cell (h : PoolAt w g p t) (i : Nat) (hi : i < 100) : w.cell? ⟨g, i, none⟩ = some (cellOf p i) := by
  rw [cell_of_row _ _ _ _ _ _ h, poolA_get p i hi]
theorem PoolAt.frozen (h : PoolAt w g p t) (i : Nat) : w.frozen? ⟨g, i, none⟩ = false := frozen_of_row h
theorem PoolAt.size_ (h : PoolAt w g p t) : w.cell? ⟨g, 0, none⟩ = some (.int .i64 p.size) := h.cell 0 (by decide)
theorem PoolAt.live_ (h : PoolAt w g p t) : w.cell? ⟨g, 65, none⟩ = some (.int .u64 (p.live : Nat)) := h.cell 65 (by decide)
theorem PoolAt.done_ (h : PoolAt w g p t) : w.cell? ⟨g, 66, none⟩ = some (.int .u64 (p.done : Nat)) := h.cell 66 (by decide)
theorem PoolAt.count_ (h : PoolAt w g p t) : w.cell? ⟨g, 99, none⟩ = some (.int .i64 p.count) := h.cell 99 (by decide)
theorem PoolAt.id_ (h : PoolAt w g p t) (k : Nat) (hk : k < 32) : w.cell? ⟨g, 67 + k, none⟩ = some (.int .i64 (p.ids k)) := by rw [h.cell (67 + k) (by omega), cell_ids p k hk]
theorem PoolAt.lt (h : PoolAt w g p t) : g < w.heap.size := (Array.getElem?_eq_some_iff.1 h).1
theorem PoolAt.below {w' : World} (h : PoolAt w g p t) (hb : Below w.heap.size w w') : PoolAt w' g p t := (hb.block g h.lt).trans h
theorem PoolAt.alloc (h : PoolAt w g p t) (ob : Obj) : PoolAt (w.alloc ob) g p t := (Below.heap_alloc w ob g h.lt).trans h
theorem PoolAt.setRow {k : Nat} (h : PoolAt w g p t) (cs : Array Value) (hk : g ≠ k) : PoolAt (w.setRow k cs) g p t := (setRow_other w k g cs hk).trans h
theorem PoolAt.setCell (h : PoolAt w g p t) (a : Addr) (v : Value) (hk : g ≠ a.block) : PoolAt (w.setCell a v) g p t := (Below.heap_setCell w a v g hk).trans h
theorem poolAt_new (w : World) (p : Pl) (t : Nat) : PoolAt (w.alloc (.cells (poolA p) t)) w.heap.size p t := heap_alloc_new w _
theorem poolAt_put {q : Pl} (h : PoolAt w g p t) : PoolAt (w.setRow g (poolA q)) g q t := setRow_heap _ _ _ _ _ _ h
theorem poolAt_live {x : Nat} (h : PoolAt w g p t) : PoolAt (w.setCell ⟨g, 65, none⟩ (.int .u64 (x : Nat))) g { p with live := x } t := by unfold PoolAt; rw [heap_set h, pool_set_live]
theorem poolAt_done {x : Nat} (h : PoolAt w g p t) : PoolAt (w.setCell ⟨g, 66, none⟩ (.int .u64 (x : Nat))) g { p with done := x } t := by unfold PoolAt; rw [heap_set h, pool_set_done]
theorem poolAt_count {x : Int} (h : PoolAt w g p t) : PoolAt (w.setCell ⟨g, 99, none⟩ (.int .i64 x)) g { p with count := x } t := by unfold PoolAt; rw [heap_set h, pool_set_count]
theorem poolAt_id {k : Nat} {x : Int} (h : PoolAt w g p t) (hk : k < 32) : PoolAt (w.setCell ⟨g, 67 + k, none⟩ (.int .i64 x)) g { p with ids := Od.upd p.ids k x } t := by unfold PoolAt; rw [heap_set h, pool_set_id _ _ _ hk]
theorem PoolAt.ext {q : Pl} (h : PoolAt w g p t) (e : p.Same q) : PoolAt w g q t := by unfold PoolAt; rw [← poolA_ext e]; exact h
theorem PoolAt.range_m (h : PoolAt w g p t) : w.rangeAt g 1 (matA p.m).toList := fun j v hv => by
  rw [Array.getElem?_toList] at hv
  have hj : j < 32 := by rw [← matA_size p.m]; exact (Array.getElem?_eq_some_iff.1 hv).1
  rw [matA_get _ j hj] at hv
  rw [h.cell (1 + j) (by omega), cell_m p j hj, hv]
theorem PoolAt.range_o (h : PoolAt w g p t) : w.rangeAt g 33 (ordA p.o).toList := fun j v hv => by
  rw [Array.getElem?_toList] at hv
  have hj : j < 32 := by rw [← ordA_size p.o]; exact (Array.getElem?_eq_some_iff.1 hv).1
  rw [ordA_get _ j hj] at hv
  rw [h.cell (33 + j) (by omega), cell_o p j hj, hv]
theorem PoolAt.range_ids (h : PoolAt w g p t) : w.rangeAt g 67 (ordA p.ids).toList := fun j v hv => by
  rw [Array.getElem?_toList] at hv
  have hj : j < 32 := by rw [← ordA_size p.ids]; exact (Array.getElem?_eq_some_iff.1 hv).1
  rw [ordA_get _ j hj] at hv
  rw [h.cell (67 + j) (by omega), cell_ids p j hj, hv]
theorem heap_setCells (b : Nat) : ∀ (vs : List Value) (o : Nat) (w : World) (cs : Array Value) (t : Nat) (fr : Nat × Nat), w.heap[b]? = some (.cells cs t fr) →
    ∃ ds : Array Value, (w.setCells b o vs).heap[b]? = some (.cells ds t fr) ∧ ds.size = cs.size ∧ ∀ i, ds[i]? = if o ≤ i ∧ i < o + vs.length ∧ i < cs.size then vs[i - o]? else cs[i]?
  | [], o, w, cs, t, fr, h => ⟨cs, h, rfl, fun i => by rw [if_neg (by simp; omega)]⟩
  | v :: r, o, w, cs, t, fr, h => by
    obtain ⟨ds, h1, h2, h3⟩ := heap_setCells b r (o + 1) (w.setCell ⟨b, o, none⟩ v) (cs.setIfInBounds o v) t fr (heap_set h)
    refine ⟨ds, h1, by simpa using h2, fun i => ?_⟩
    rw [h3 i, Array.size_setIfInBounds, Array.getElem?_setIfInBounds]
    by_cases e : o = i
    · subst e
      by_cases hs : o < cs.size
      · rw [if_neg (by omega), if_pos rfl, if_pos hs, if_pos (by simp; omega), Nat.sub_self]; rfl
      · simp [hs]
    · by_cases c : o + 1 ≤ i ∧ i < o + 1 + r.length ∧ i < cs.size
      · rw [if_pos c, if_pos (by simp; omega), show i - o = (i - (o + 1)) + 1 by omega, List.getElem?_cons_succ]
      · rw [if_neg c, if_neg e, if_neg (by simp; omega)]
theorem heap_setCells_other (b k : Nat) (hk : k ≠ b) : ∀ (vs : List Value) (o : Nat) (w : World), (w.setCells b o vs).heap[k]? = w.heap[k]?
  | [], _, _ => rfl
  | v :: r, o, w => by rw [World.setCells, heap_setCells_other b k hk r, Below.heap_setCell w ⟨b, o, none⟩ v k hk]
theorem setCells_below {a : World} {B : Nat} (b : Nat) (hB : B ≤ b) : ∀ (vs : List Value) (o : Nat) (w : World), Below B a w → Below B a (w.setCells b o vs)
  | [], _, _, h => h
  | _ :: r, o, _, h => setCells_below b hB r (o + 1) _ (h.setCell hB _)
theorem poolAt_m {n : Mm.Gr} (h : PoolAt w g p t) : PoolAt (w.setCells g 1 (matA n).toList) g { p with m := n } t := by
  obtain ⟨ds, h1, h2, h3⟩ := heap_setCells g (matA n).toList 1 w _ _ _ h
  unfold PoolAt
  have e : ds = poolA { p with m := n } := by
    refine poolA_eq (by rw [h2, poolA_size]) fun i hi => ?_
    rw [h3 i, poolA_size, Array.length_toList, matA_size, Array.getElem?_toList]
    by_cases c : 1 ≤ i ∧ i < 33
    · rw [if_pos (by omega), matA_get _ _ (by omega)]
      obtain ⟨j, rfl⟩ : ∃ j, i = 1 + j := ⟨i - 1, by omega⟩
      rw [cell_m _ j (by omega), Nat.add_sub_cancel_left]
    · rw [if_neg (by omega), poolA_get p i hi]
      exact congrArg some (cell_up hi (fun _ => rfl) (fun j hj e => by omega) (fun _ _ _ => rfl) (fun _ => rfl) (fun _ => rfl) (fun _ _ _ => rfl) (fun _ => rfl))
  rw [h1, e]
theorem poolAt_o {n : Od.O} (h : PoolAt w g p t) : PoolAt (w.setCells g 33 (ordA n).toList) g { p with o := n } t := by
  obtain ⟨ds, h1, h2, h3⟩ := heap_setCells g (ordA n).toList 33 w _ _ _ h
  unfold PoolAt
  have e : ds = poolA { p with o := n } := by
    refine poolA_eq (by rw [h2, poolA_size]) fun i hi => ?_
    rw [h3 i, poolA_size, Array.length_toList, ordA_size, Array.getElem?_toList]
    by_cases c : 33 ≤ i ∧ i < 65
    · rw [if_pos (by omega), ordA_get _ _ (by omega)]
      obtain ⟨j, rfl⟩ : ∃ j, i = 33 + j := ⟨i - 33, by omega⟩
      rw [cell_o _ j (by omega), Nat.add_sub_cancel_left]
    · rw [if_neg (by omega), poolA_get p i hi]
      exact congrArg some (cell_up hi (fun _ => rfl) (fun _ _ _ => rfl) (fun j hj e => by omega) (fun _ => rfl) (fun _ => rfl) (fun _ _ _ => rfl) (fun _ => rfl))
  rw [h1, e]
theorem PoolAt.there (h : PoolAt w g p t) (o n : Nat) (ho : o + n ≤ 100) : w.there g o n := fun j hj => ⟨by rw [h.cell (o + j) (by omega)]; rfl, h.frozen _⟩
end
/- the walk's steps -/
theorem load_m {ops : Array Oper} {rest : List Oper} {op : Oper} {a : Act} {w : World} {Q : Exit → Act → World → Prop} (hw : Region.wanted op (yielded ops a.tmps) = true) (ty : TypeId) (x : Operand) (ho : op.op = .load ty x)
    (g : Nat) (p : Pl) (t : Nat) (hx : a.eval x = .pointer (some ⟨g, 1, none⟩)) (d : TypeDesc) (h : PoolAt w g p t) (hu : Tryz.prog.underlying ty = some d) (hd : d.isRow = true) (hi : (Tryz.prog.info? ty).map (·.size) = some 32)
    (hK : wpList Tryz.prog ops Q rest (a.put op.dst (.agg (matA p.m))) w) : wpList Tryz.prog ops Q (op :: rest) a w :=
  wpList_step fun _ hK' => by rw [if_pos hw]; exact wp_load_mid ty x ho g 1 hx (matA p.m).toList d h.range_m hu hd (by simpa [matA_size] using hi) (hK' _ _ hK)
theorem load_o {ops : Array Oper} {rest : List Oper} {op : Oper} {a : Act} {w : World} {Q : Exit → Act → World → Prop} (hw : Region.wanted op (yielded ops a.tmps) = true) (ty : TypeId) (x : Operand) (ho : op.op = .load ty x)
    (g : Nat) (p : Pl) (t : Nat) (hx : a.eval x = .pointer (some ⟨g, 33, none⟩)) (d : TypeDesc) (h : PoolAt w g p t) (hu : Tryz.prog.underlying ty = some d) (hd : d.isRow = true) (hi : (Tryz.prog.info? ty).map (·.size) = some 32)
    (hK : wpList Tryz.prog ops Q rest (a.put op.dst (.agg (ordA p.o))) w) : wpList Tryz.prog ops Q (op :: rest) a w :=
  wpList_step fun _ hK' => by rw [if_pos hw]; exact wp_load_mid ty x ho g 33 hx (ordA p.o).toList d h.range_o hu hd (by simpa [ordA_size] using hi) (hK' _ _ hK)
theorem load_ids {ops : Array Oper} {rest : List Oper} {op : Oper} {a : Act} {w : World} {Q : Exit → Act → World → Prop} (hw : Region.wanted op (yielded ops a.tmps) = true) (ty : TypeId) (x : Operand) (ho : op.op = .load ty x)
    (g : Nat) (p : Pl) (t : Nat) (hx : a.eval x = .pointer (some ⟨g, 67, none⟩)) (d : TypeDesc) (h : PoolAt w g p t) (hu : Tryz.prog.underlying ty = some d) (hd : d.isRow = true) (hi : (Tryz.prog.info? ty).map (·.size) = some 32)
    (hK : wpList Tryz.prog ops Q rest (a.put op.dst (.agg (ordA p.ids))) w) : wpList Tryz.prog ops Q (op :: rest) a w :=
  wpList_step fun _ hK' => by rw [if_pos hw]; exact wp_load_mid ty x ho g 67 hx (ordA p.ids).toList d h.range_ids hu hd (by simpa [ordA_size] using hi) (hK' _ _ hK)
theorem load_pool {ops : Array Oper} {rest : List Oper} {op : Oper} {a : Act} {w : World} {Q : Exit → Act → World → Prop} (hw : Region.wanted op (yielded ops a.tmps) = true) (ty : TypeId) (x : Operand) (ho : op.op = .load ty x)
    (g : Nat) (p : Pl) (t : Nat) (hx : a.eval x = .pointer (some ⟨g, 0, none⟩)) (d : TypeDesc) (h : PoolAt w g p t) (hu : Tryz.prog.underlying ty = some d) (hd : d.isRow = true) (hi : (Tryz.prog.info? ty).map (·.size) = some 100)
    (hK : wpList Tryz.prog ops Q rest (a.put op.dst (.agg (poolA p))) w) : wpList Tryz.prog ops Q (op :: rest) a w :=
  wpList_step fun _ hK' => by
    rw [if_pos hw]
    exact wp_load_mid ty x ho g 0 hx (poolA p).toList d (fun j v hv => by rw [Nat.zero_add]; rw [Array.getElem?_toList] at hv; rw [cell_of_row _ _ _ _ _ _ h, hv]) hu hd (by simpa [poolA_size] using hi) (hK' _ _ hK)
theorem store_pool {ops : Array Oper} {rest : List Oper} {op : Oper} {a : Act} {w : World} {Q : Exit → Act → World → Prop} (hgd : op.guard = none) (ty : TypeId) (x y : Operand) (ho : op.op = .store ty x y) (hds : op.dst = none)
    (g : Nat) (p q : Pl) (t : Nat) (hx : a.eval x = .pointer (some ⟨g, 0, none⟩)) (hy : a.eval y = .agg (poolA q)) (h : PoolAt w g p t) (hi : (Tryz.prog.info? ty).map (·.size) = some 100)
    (hK : wpList Tryz.prog ops Q rest a (w.setRow g (poolA q))) : wpList Tryz.prog ops Q (op :: rest) a w :=
  wpList_store_row hgd ty x y ho g (poolA q) hx hy t _ h (by rw [poolA_size]; exact hi) (by rw [poolA_size, poolA_size]) (poolA_one _) (by rw [hds]; exact hK)
theorem store_m {ops : Array Oper} {rest : List Oper} {op : Oper} {a : Act} {w : World} {Q : Exit → Act → World → Prop} (hgd : op.guard = none) (ty : TypeId) (x y : Operand) (ho : op.op = .store ty x y) (hds : op.dst = none)
    (g : Nat) (p : Pl) (n : Mm.Gr) (t : Nat) (hx : a.eval x = .pointer (some ⟨g, 1, none⟩)) (hy : a.eval y = .agg (matA n)) (h : PoolAt w g p t) (hi : (Tryz.prog.info? ty).map (·.size) = some 32)
    (hK : wpList Tryz.prog ops Q rest a (w.setCells g 1 (matA n).toList)) : wpList Tryz.prog ops Q (op :: rest) a w :=
  wpList_store_mid hgd ty x y ho g 1 (matA n) hx hy (by rw [matA_size]; exact h.there 1 32 (by omega)) (by rw [matA_size]; exact hi) (matA_one _) (by rw [hds]; exact hK)
theorem store_o {ops : Array Oper} {rest : List Oper} {op : Oper} {a : Act} {w : World} {Q : Exit → Act → World → Prop} (hgd : op.guard = none) (ty : TypeId) (x y : Operand) (ho : op.op = .store ty x y) (hds : op.dst = none)
    (g : Nat) (p : Pl) (n : Od.O) (t : Nat) (hx : a.eval x = .pointer (some ⟨g, 33, none⟩)) (hy : a.eval y = .agg (ordA n)) (h : PoolAt w g p t) (hi : (Tryz.prog.info? ty).map (·.size) = some 32)
    (hK : wpList Tryz.prog ops Q rest a (w.setCells g 33 (ordA n).toList)) : wpList Tryz.prog ops Q (op :: rest) a w :=
  wpList_store_mid hgd ty x y ho g 33 (ordA n) hx hy (by rw [ordA_size]; exact h.there 33 32 (by omega)) (by rw [ordA_size]; exact hi) (ordA_one _) (by rw [hds]; exact hK)
/- zero, and built -/
def zeroP : Pl := ⟨0, zeroM, zeroO, 0, 0, zeroO, 0⟩
theorem zeroP_row : poolA zeroP = ((List.replicate 1 (Value.int .i64 0)) ++ (List.replicate 32 (Value.int .u64 0)) ++ (List.replicate 32 (Value.int .i64 0)) ++ (List.replicate 2 (Value.int .u64 0)) ++ (List.replicate 33 (Value.int .i64 0))).toArray := by kernel_rfl
theorem zero_pool_info : (Tryz.prog.info? 87).map (fun i => (i.zero, i.size)) = some (some (.agg (poolA zeroP)), 100) := by kernel_rfl
theorem zero_rpool_info : (Tryz.prog.info? 52).map (fun i => (i.zero, i.size)) = some (some (.agg (poolA zeroP)), 100) := by kernel_rfl
end Go.Proofs.YtfdfiiocccafkaaGreatDoor
namespace Go.Proofs.YtfdfiiocccafkaaGreatDoor.Po
open Mm Od
/-- is a slot below the size, and free? -/
def freeAt (p : Pl) (s : Nat) : Bool := decide ((s : Int) < p.size) && !(p.live ||| p.done).testBit s
def ff (p : Pl) : Option Nat := (List.range 32).find? (freeAt p)
theorem ff_some {p : Pl} {s : Nat} (hs : s < 32) (h : freeAt p s = true) (hl : ∀ j, j < s → freeAt p j = false) : ff p = some s := by
  unfold ff
  rw [List.find?_range_eq_some]
  exact ⟨h, by simpa using hs, fun j hj => by rw [hl j hj]; rfl⟩
theorem ff_spec {p : Pl} {s : Nat} (h : ff p = some s) : s < 32 ∧ freeAt p s = true ∧ ∀ j, j < s → freeAt p j = false := by
  unfold ff at h
  rw [List.find?_range_eq_some] at h
  exact ⟨by simpa using h.2.1, h.1, fun j hj => by have := h.2.2 j hj; simpa using this⟩
theorem ff_none {p : Pl} (h : ∀ j, j < 32 → freeAt p j = false) : ff p = none := by
  unfold ff
  rw [List.find?_eq_none]
  intro x hx
  rw [h x (by simpa using hx)]; simp
theorem ff_full {p : Pl} (h : ff p = none) (j : Nat) (hj : j < 32) : freeAt p j = false := by
  unfold ff at h
  rw [List.find?_eq_none] at h
  have := h j (by simpa using hj)
  simpa using this
noncomputable def insStep (s : Nat) (x : Gr × O) (k : Nat) : Gr × O := ((insert x.1 x.2 (k : Nat) (s : Nat)).1, (insert x.1 x.2 (k : Nat) (s : Nat)).2.1)
noncomputable def insAll (s : Nat) (l : List Nat) (x : Gr × O) : Gr × O := l.foldl (insStep s) x
theorem insAll_snoc (s : Nat) (l : List Nat) (k : Nat) (x : Gr × O) : insAll s (l ++ [k]) x = insStep s (insAll s l x) k := by simp [insAll]
/-- the pool with one more in the slot s. -/
def opened (p : Pl) (s : Nat) : Pl := { p with live := Sm.add p.live (s : Nat), count := p.count + 1, ids := upd p.ids s (p.count + 1) }
def over (p : Pl) (x : Gr × O) : Pl := { p with m := x.1, o := x.2 }
noncomputable def begun (p : Pl) (s : Nat) : Pl := over (opened p s) (insAll s (Sm.items p.done) (p.m, p.o))
noncomputable def begin (p : Pl) : Pl × Int × Int :=
  match ff p with
  | some s => (begun p s, (s : Int), 0)
  | none => (p, 0, 4)
def taken (p : Pl) (s : Int) : Bool := Sm.has (p.live ||| p.done) s
noncomputable def edge (p : Pl) (a b : Int) : Pl × Int :=
  if a = b then (p, 2) else if taken p a = false ∨ taken p b = false then (p, 3)
  else if (insert p.m p.o a b).2.2 = true then (over p ((insert p.m p.o a b).1, (insert p.m p.o a b).2.1), 0) else (p, 5)
def ended (p : Pl) (s : Int) : Pl := { p with live := Sm.less p.live s, done := Sm.add p.done s }
def endP (p : Pl) (s : Int) : Pl × Int := if Sm.has p.live s = true then (ended p s, 0) else (p, 3)
def goable (p : Pl) (s : Nat) : Bool := p.done.testBit s && decide (ins p.m s = 0)
def better (p : Pl) (k : Nat) : Option Nat → Bool
  | none => true
  | some f => decide (p.ids k < p.ids f)
def bestTo (p : Pl) : Nat → Option Nat
  | 0 => none
  | k + 1 => if (goable p k && better p k (bestTo p k)) = true then some k else bestTo p k
def next (p : Pl) : Option Nat := bestTo p 32
def going (p : Pl) (s : Nat) : Pl := { p with m := cut p.m s, done := Sm.less p.done (s : Nat), ids := upd p.ids s 0 }
def coll : Nat → Pl → Pl × List Int
  | 0, p => (p, [])
  | n + 1, p => match next p with
    | none => (p, [])
    | some s => ((coll n (going p s)).1, p.ids s :: (coll n (going p s)).2)
def collect (p : Pl) : Pl × List Int := coll (Sm.count p.done) p
theorem bestTo_spec {p : Pl} : ∀ {k s : Nat}, bestTo p k = some s → s < k ∧ goable p s = true
  | 0, s, h => by simp [bestTo] at h
  | k + 1, s, h => by
    unfold bestTo at h
    split at h
    · rename_i hc
      injection h with h
      subst h
      simp at hc
      exact ⟨by omega, hc.1⟩
    · have := bestTo_spec h
      exact ⟨by omega, this.2⟩
theorem bestTo_none {p : Pl} : ∀ {k : Nat}, bestTo p k = none → ∀ j, j < k → goable p j = false
  | 0, _, j, hj => by omega
  | k + 1, h, j, hj => by
    unfold bestTo at h
    split at h
    · cases h
    · rename_i hc
      rcases Nat.lt_or_ge j k with h1 | h1
      · exact bestTo_none h j h1
      · obtain rfl : j = k := by omega
        rw [h] at hc
        simpa [better] using hc
theorem next_spec {p : Pl} {s : Nat} (h : next p = some s) : s < 32 ∧ p.done.testBit s = true ∧ ∀ i, ¬ E p.m i s := by
  obtain ⟨h1, h2⟩ := bestTo_spec h
  simp [goable] at h2
  refine ⟨h1, h2.1, fun i hi => ?_⟩
  have := (ins_test p.m s i).2 hi
  rw [h2.2] at this
  simp at this
theorem next_none {p : Pl} (h : next p = none) {s : Nat} (hs : s < 32) (hd : p.done.testBit s = true) : ∃ i, E p.m i s := by
  have := bestTo_none h s hs
  simp [goable, hd] at this
  have hne : ∃ j, (ins p.m s).testBit j = true := Nat.exists_testBit_of_ne_zero this
  obtain ⟨j, hj⟩ := hne
  exact ⟨j, (ins_test p.m s j).1 hj⟩
theorem items_nodup (x : Nat) : (Sm.items x).Nodup := (Sm.items_rise x).imp (fun h => Nat.ne_of_lt h)
theorem items_less {x s : Nat} (hx : x < 18446744073709551616) (hs : s < 64) : Sm.items (Sm.less x (s : Nat)) = (Sm.items x).filter (· != s) := by
  unfold Sm.items
  rw [List.filter_filter]
  apply List.filter_congr
  intro i _
  rw [Sm.less_test _ _ hx, Bool.and_comm]
  congr 1
  rw [Bool.eq_iff_iff]
  simp
  omega
theorem count_less {x s : Nat} (hx : x < 18446744073709551616) (hs : s < 64) (h : x.testBit s = true) : Sm.count (Sm.less x (s : Nat)) + 1 = Sm.count x := by
  have hm : s ∈ Sm.items x := Sm.items_mem.2 ⟨hs, h⟩
  unfold Sm.count
  rw [items_less hx hs, ← (items_nodup x).erase_eq_filter, List.length_erase_of_mem hm]
  have := List.length_pos_of_mem hm
  omega
theorem collect_none {p : Pl} (h : next p = none) : collect p = (p, []) := by
  unfold collect
  cases Sm.count p.done with
  | zero => rfl
  | succ n => simp [coll, h]
theorem collect_some {p : Pl} (hd : p.done < 18446744073709551616) {s : Nat} (h : next p = some s) : collect p = ((collect (going p s)).1, p.ids s :: (collect (going p s)).2) := by
  have hs := next_spec h
  have := count_less hd (by omega) hs.2.1
  unfold collect
  rw [← this]
  simp only [coll, h]
  rfl
/-- to show something of what goes. -/
theorem coll_ind (P : Pl → Pl × List Int → Prop) (h0 : ∀ p, next p = none → P p (p, [])) (h1 : ∀ p s r, p.done < 18446744073709551616 → next p = some s → P (going p s) r → P p (r.1, p.ids s :: r.2)) :
    ∀ p, p.done < 18446744073709551616 → P p (collect p) := by
  have key : ∀ n p, Sm.count p.done = n → p.done < 18446744073709551616 → P p (collect p) := by
    intro n
    induction n using Nat.strongRecOn with
    | ind n ih =>
      intro p hn hd
      cases hx : next p with
      | none => rw [collect_none hx]; exact h0 p hx
      | some s =>
        rw [collect_some hd hx]
        have hs := next_spec hx
        have := count_less hd (by omega) hs.2.1
        exact h1 p s _ hd hx (ih (Sm.count (going p s).done) (by show Sm.count (Sm.less p.done (s : Nat)) < n; omega) _ rfl (Sm.less_lt _ hd))
  exact fun p hd => key _ p rfl hd
/- what insert makes -/
theorem ins_low {m : Gr} {o : O} (a b : Int) (h : ∀ i, i < 32 → m i < 4294967296) : ∀ i, i < 32 → (insert m o a b).1 i < 4294967296 := by
  have hp : ∀ x y : Nat, x < 32 → y < 32 → ∀ i, i < 32 → put m x y i < 4294967296 := by
    intro x y hx hy i hi
    unfold put
    split
    · refine lt32 fun j hj => ?_
      rw [Sm.add_test, Bool.or_eq_true] at hj
      rcases hj with hj | hj
      · exact test32 (h i hi) hj
      · simp at hj; omega
    · exact h i hi
  exact insert_cases m o a b (fun r => ∀ i, i < 32 → r.1 i < 4294967296) (fun _ => h) (fun x y _ _ hx hy _ _ _ => hp x y hx hy) (fun _ _ _ _ _ _ _ _ _ _ => h) (fun x y _ _ hx hy _ _ _ _ => hp x y hx hy)
theorem ins_E {m : Gr} {o : O} {a b : Int} {i j : Nat} (he : E (insert m o a b).1 i j) : E m i j ∨ ((i : Int) = a ∧ (j : Int) = b) := by
  revert he
  refine insert_cases m o a b (fun r => E r.1 i j → E m i j ∨ ((i : Int) = a ∧ (j : Int) = b)) (fun _ h => .inl h) ?_ (fun _ _ _ _ _ _ _ _ _ _ h => .inl h) ?_
  · intro x y hx hy hx32 hy32 _ _ _ h
    rcases (put_E hx32 hy32 i j).1 h with h | ⟨rfl, rfl⟩
    · exact .inl h
    · exact .inr ⟨hx.symm, hy.symm⟩
  · intro x y hx hy hx32 hy32 _ _ _ _ h
    rcases (put_E hx32 hy32 i j).1 h with h | ⟨rfl, rfl⟩
    · exact .inl h
    · exact .inr ⟨hx.symm, hy.symm⟩
theorem ins_old {m : Gr} {o : O} {a b : Int} {i j : Nat} (he : E m i j) : E (insert m o a b).1 i j :=
  insert_cases m o a b (fun r => E r.1 i j) (fun _ => he) (fun _ _ _ _ hx hy _ _ _ => (put_E hx hy i j).2 (.inl he)) (fun _ _ _ _ _ _ _ _ _ _ => he) (fun _ _ _ _ hx hy _ _ _ _ => (put_E hx hy i j).2 (.inl he))
/-- an edge that may be is there, and all is sorted; or it closes a way round. -/
theorem ins_may {m : Mm.Gr} {o : Od.O} {x y : Nat} (hx : x < 32) (hy : y < 32) (hxy : x ≠ y) (hs : Od.Sorted m o) :
    (∃ q, Od.insert m o (x : Nat) (y : Nat) = (Mm.put m x y, q, true) ∧ Od.Sorted (Mm.put m x y) q ∧ Mm.free (Mm.put m x y) = true) ∨ (Od.insert m o (x : Nat) (y : Nat) = (m, o, false) ∧ Mm.free (Mm.put m x y) = false) := by
  by_cases hlt : o x < o y
  · have h := Od.put_sorted hs hx hy hlt
    exact .inl ⟨o, Od.insert_up hx hy hxy hs hlt, h, Od.sorted_free h⟩
  · cases hf : (Od.fore m o x y).testBit x
    · have h := Od.moved_sorted hs hx hy (by omega) hf
      exact .inl ⟨_, Od.insert_down hx hy hxy hs (by omega) hf, h, Od.sorted_free h⟩
    · exact .inr ⟨Od.insert_round hx hy hxy hs (by omega) hf, Od.fore_closes hs hx hy hxy hf⟩
/-- from a node that nothing leaves no edge to it is refused. -/
theorem ins_leaf {m : Gr} {o : O} {k s : Nat} (hk : k < 32) (hs32 : s < 32) (hne : k ≠ s) (hs : Sorted m o) (hl : ∀ j, ¬ E m s j) : E (insert m o (k : Nat) (s : Nat)).1 k s := by
  rcases ins_may hk hs32 hne hs with ⟨q, e, _, _⟩ | ⟨_, hf⟩
  · rw [e]; exact (put_E hk hs32 k s).2 (.inr ⟨rfl, rfl⟩)
  · rw [put_closes hk hs32 hne (sorted_free hs), Sm.has_nat _ (ways_lt _ _)] at hf
    simp at hf
    have hw := ((ways_test _ _ _).1 hf).2
    rcases hw.cases_head with h1 | ⟨_, h1, _⟩
    · exact absurd h1 (hl _)
    · exact absurd h1 (hl _)
/- sound -/
def tk (p : Pl) (i : Nat) : Prop := p.live.testBit i = true ∨ p.done.testBit i = true
structure Sound (p : Pl) : Prop where
  size : 1 ≤ p.size ∧ p.size ≤ 32
  sorted : Sorted p.m p.o
  low : ∀ i, i < 32 → p.m i < 4294967296
  inn : ∀ i, tk p i → (i : Int) < p.size
  apart : ∀ i, p.live.testBit i = true → p.done.testBit i = true → False
  edges : ∀ i j, E p.m i j → tk p i ∧ tk p j
  count : 0 ≤ p.count
  ids : ∀ i, i < 32 → 0 ≤ p.ids i ∧ p.ids i ≤ p.count
  pos : ∀ i, tk p i → 1 ≤ p.ids i
  uniq : ∀ i j, tk p i → tk p j → p.ids i = p.ids j → i = j
theorem Sound.tk32 {p : Pl} (h : Sound p) {i : Nat} (hi : tk p i) : i < 32 := by have := h.inn i hi; have := h.size.2; omega
theorem Sound.live32 {p : Pl} (h : Sound p) : p.live < 4294967296 := lt32 fun _ hj => h.tk32 (.inl hj)
theorem Sound.done32 {p : Pl} (h : Sound p) : p.done < 4294967296 := lt32 fun _ hj => h.tk32 (.inr hj)
theorem tk_or {p : Pl} {i : Nat} : tk p i ↔ (p.live ||| p.done).testBit i = true := by rw [Nat.testBit_or, Bool.or_eq_true]; exact Iff.rfl
theorem Sound.ok {p : Pl} (h : Sound p) (hc : p.count ≤ 9223372036854775807) : p.Ok :=
  ⟨by have := h.size; omega, fun i hi => by have := h.low i hi; omega, h.sorted.1.ok, by have := h.live32; omega, by have := h.done32; omega, fun i hi => by have := h.ids i hi; omega, by have := h.count; omega⟩
def newP (n : Int) : Pl := ⟨n, zeroM, newO, 0, 0, zeroO, 0⟩
theorem new_sound {n : Int} (h : 1 ≤ n ∧ n ≤ 32) : Sound (newP n) :=
  ⟨h, new_sorted zero_E, fun _ _ => by simp [newP, zeroM], fun i hi => by simp [tk, newP] at hi, fun i hi => by simp [newP] at hi, fun i j he => absurd he (zero_E i j), Int.le_refl _, fun _ _ => by simp [newP, zeroO], fun i hi => by simp [tk, newP] at hi, fun i j hi => by simp [tk, newP] at hi⟩
theorem freeAt_tk {p : Pl} {s : Nat} (h : freeAt p s = true) : (s : Int) < p.size ∧ ¬ tk p s := by
  unfold freeAt at h
  rw [Bool.and_eq_true, decide_eq_true_eq] at h
  refine ⟨h.1, fun ht => ?_⟩
  rw [tk_or.1 ht] at h
  simp at h
/- beginning -/
structure InsI (p : Pl) (s : Nat) (l : List Nat) (x : Gr × O) : Prop where
  sorted : Sorted x.1 x.2
  low : ∀ i, i < 32 → x.1 i < 4294967296
  new : ∀ i j, E x.1 i j → E p.m i j ∨ (i ∈ l ∧ j = s)
  old : ∀ i j, E p.m i j → E x.1 i j
  has : ∀ i, i ∈ l → E x.1 i s
theorem insAll_inv {p : Pl} (h : Sound p) {s : Nat} (hs : s < 32) (hf : ¬ tk p s) (l : List Nat) (hl : ∀ i, i ∈ l → p.done.testBit i = true) : InsI p s l (insAll s l (p.m, p.o)) := by
  have key : ∀ (k : List Nat) (L : List Nat) (x : Gr × O), (∀ i, i ∈ k → p.done.testBit i = true) → (∀ i, i ∈ L → p.done.testBit i = true) → InsI p s L x → InsI p s (L ++ k) (insAll s k x) := by
    intro k
    induction k with
    | nil => intro L x _ _ hx; simpa [insAll] using hx
    | cons c r ih =>
      intro L x hk hL hx
      have hc : p.done.testBit c = true := hk c (by simp)
      have hcs : c ≠ s := fun e => hf (e ▸ .inr hc)
      have hc32 := h.tk32 (.inr hc)
      have hleaf : ∀ j, ¬ E x.1 s j := fun j he => by
        rcases hx.new s j he with h1 | ⟨h1, _⟩
        · exact hf (h.edges s j h1).1
        · exact hf (.inr (hL s h1))
      have hstep : InsI p s (L ++ [c]) (insStep s x c) := by
        refine ⟨insert_sorted _ _ hx.sorted, ins_low _ _ hx.low, ?_, fun i j he => ins_old (hx.old i j he), ?_⟩
        · intro i j he
          rcases ins_E he with h1 | ⟨h1, h2⟩
          · rcases hx.new i j h1 with h3 | ⟨h3, h4⟩
            · exact .inl h3
            · exact .inr ⟨by simp [h3], h4⟩
          · refine .inr ⟨?_, by omega⟩
            have : i = c := by omega
            simp [this]
        · intro i hi
          rw [List.mem_append, List.mem_singleton] at hi
          rcases hi with hi | rfl
          · exact ins_old (hx.has i hi)
          · exact ins_leaf hc32 hs hcs hx.sorted hleaf
      have := ih (L ++ [c]) (insStep s x c) (fun i hi => hk i (by simp [hi])) (fun i hi => by
        rw [List.mem_append, List.mem_singleton] at hi
        rcases hi with hi | rfl
        · exact hL i hi
        · exact hc) hstep
      rw [List.append_assoc] at this
      exact this
  have := key l [] (p.m, p.o) hl (fun i hi => by simp at hi) ⟨h.sorted, h.low, fun i j he => .inl he, fun i j he => he, fun i hi => by simp at hi⟩
  simpa using this
theorem begun_inv {p : Pl} (h : Sound p) {s : Nat} (hs : s < 32) (hf : ¬ tk p s) : InsI p s (Sm.items p.done) (insAll s (Sm.items p.done) (p.m, p.o)) :=
  insAll_inv h hs hf _ fun _ hi => (Sm.items_mem.1 hi).2
theorem begun_tk {p : Pl} {s : Nat} (hs : s < 32) (i : Nat) : tk (begun p s) i ↔ tk p i ∨ i = s := by
  unfold tk
  show (Sm.add p.live (s : Nat)).testBit i = true ∨ p.done.testBit i = true ↔ _
  rw [Sm.add_test, Bool.or_eq_true, decide_eq_true_eq]
  constructor
  · rintro ((h | h) | h)
    · exact .inl (.inl h)
    · exact .inr (by omega)
    · exact .inl (.inr h)
  · rintro ((h | h) | rfl)
    · exact .inl (.inl h)
    · exact .inr h
    · exact .inl (.inr (by omega))
theorem begun_sound {p : Pl} (h : Sound p) {s : Nat} (hs : s < 32) (hsz : (s : Int) < p.size) (hf : ¬ tk p s) : Sound (begun p s) := by
  have hI := begun_inv h hs hf
  refine ⟨h.size, hI.sorted, hI.low, ?_, ?_, ?_, ?_, ?_, ?_, ?_⟩
  · intro i hi
    rcases (begun_tk hs i).1 hi with h1 | rfl
    · exact h.inn i h1
    · exact hsz
  · intro i h1 h2
    have h1 : (Sm.add p.live (s : Nat)).testBit i = true := h1
    have h2 : p.done.testBit i = true := h2
    rw [Sm.add_test, Bool.or_eq_true, decide_eq_true_eq] at h1
    rcases h1 with h1 | h1
    · exact h.apart i h1 h2
    · have : i = s := by omega
      exact hf (this ▸ .inr h2)
  · intro i j he
    rw [begun_tk hs, begun_tk hs]
    rcases hI.new i j he with h1 | ⟨h1, h2⟩
    · have := h.edges i j h1
      exact ⟨.inl this.1, .inl this.2⟩
    · exact ⟨.inl (.inr (Sm.items_mem.1 h1).2), .inr h2⟩
  · show 0 ≤ p.count + 1
    have := h.count; omega
  · intro i hi
    show 0 ≤ upd p.ids s (p.count + 1) i ∧ upd p.ids s (p.count + 1) i ≤ p.count + 1
    unfold upd
    have := h.ids i hi
    have := h.count
    split <;> omega
  · intro i hi
    show 1 ≤ upd p.ids s (p.count + 1) i
    unfold upd
    have := h.count
    split
    · omega
    · rename_i hne
      rcases (begun_tk hs i).1 hi with h1 | h1
      · exact h.pos i h1
      · exact absurd h1 hne
  · intro i j hi hj e
    have e : upd p.ids s (p.count + 1) i = upd p.ids s (p.count + 1) j := e
    unfold upd at e
    rcases (begun_tk hs i).1 hi with h1 | h1
    · rcases (begun_tk hs j).1 hj with h2 | h2
      · have n1 : i ≠ s := fun x => hf (x ▸ h1)
        have n2 : j ≠ s := fun x => hf (x ▸ h2)
        rw [if_neg n1, if_neg n2] at e
        exact h.uniq i j h1 h2 e
      · have n1 : i ≠ s := fun x => hf (x ▸ h1)
        rw [if_neg n1, if_pos h2] at e
        have := (h.ids i (h.tk32 h1)).2
        omega
    · rcases (begun_tk hs j).1 hj with h2 | h2
      · have n2 : j ≠ s := fun x => hf (x ▸ h2)
        rw [if_pos h1, if_neg n2] at e
        have := (h.ids j (h.tk32 h2)).2
        omega
      · rw [h1, h2]
theorem begin_sound {p : Pl} (h : Sound p) : Sound (begin p).1 := by
  unfold begin
  cases hf : ff p with
  | none => exact h
  | some s =>
    have hs := ff_spec hf
    have := freeAt_tk hs.2.1
    exact begun_sound h hs.1 this.1 this.2
/- edges -/
theorem over_sound {p : Pl} (h : Sound p) (a b : Int) (ha : taken p a = true) (hb : taken p b = true) : Sound (over p ((insert p.m p.o a b).1, (insert p.m p.o a b).2.1)) := by
  have hlt : p.live ||| p.done < 18446744073709551616 := by have := or_lt32 h.live32 h.done32; omega
  have tkOf : ∀ {i : Nat} {c : Int}, (i : Int) = c → taken p c = true → tk p i := by
    intro i c e hc
    subst e
    unfold taken at hc
    rw [Sm.has_nat _ hlt] at hc
    exact tk_or.2 hc
  exact ⟨h.size, insert_sorted _ _ h.sorted, ins_low _ _ h.low, h.inn, h.apart, fun i j he => by
    rcases ins_E he with h1 | ⟨h1, h2⟩
    · exact h.edges i j h1
    · exact ⟨tkOf h1 ha, tkOf h2 hb⟩, h.count, h.ids, h.pos, h.uniq⟩
theorem edge_sound {p : Pl} (h : Sound p) (a b : Int) : Sound (edge p a b).1 := by
  unfold edge
  by_cases h1 : a = b
  · rw [if_pos h1]; exact h
  rw [if_neg h1]
  by_cases h2 : taken p a = false ∨ taken p b = false
  · rw [if_pos h2]; exact h
  rw [if_neg h2]
  by_cases h3 : (insert p.m p.o a b).2.2 = true
  · rw [if_pos h3]
    exact over_sound h a b (by cases hx : taken p a; exact absurd (.inl hx) h2; rfl) (by cases hx : taken p b; exact absurd (.inr hx) h2; rfl)
  · rw [if_neg h3]; exact h
theorem ended_tk {p : Pl} (h : Sound p) {s : Int} (hs : Sm.has p.live s = true) (i : Nat) : tk (ended p s) i ↔ tk p i := by
  have hl := h.live32
  have h0 : 0 ≤ s := by
    rcases Int.lt_or_le s 0 with h | h
    · rw [Sm.has_neg h] at hs; cases hs
    · exact h
  rw [Sm.has_eq _ h0 (by omega)] at hs
  unfold tk ended
  rw [Sm.less_test _ _ (by omega), Sm.add_test]
  by_cases e : (i : Int) = s
  · subst e
    have hi := test32 hl hs
    rw [Int.toNat_natCast] at hs hi
    simp [hs]
    omega
  · have : ¬ (0 ≤ s ∧ s ≤ 63 ∧ (i : Int) = s) := fun x => e x.2.2
    simp [this]
theorem ended_sound {p : Pl} (h : Sound p) {s : Int} (hs : Sm.has p.live s = true) : Sound (ended p s) := by
  have ht := ended_tk h hs
  refine ⟨h.size, h.sorted, h.low, fun i hi => h.inn i ((ht i).1 hi), ?_, fun i j he => ⟨(ht i).2 (h.edges i j he).1, (ht j).2 (h.edges i j he).2⟩, h.count, h.ids, fun i hi => h.pos i ((ht i).1 hi), fun i j hi hj => h.uniq i j ((ht i).1 hi) ((ht j).1 hj)⟩
  intro i h1 h2
  have h1 : (Sm.less p.live s).testBit i = true := h1
  have h2 : (Sm.add p.done s).testBit i = true := h2
  have hl := h.live32
  rw [Sm.less_test _ _ (by omega)] at h1
  rw [Sm.add_test] at h2
  simp at h1 h2
  rcases h2 with h2 | h2
  · exact h.apart i h1.1 h2
  · have := h1.2; omega
theorem end_sound {p : Pl} (h : Sound p) (s : Int) : Sound (endP p s).1 := by
  unfold endP
  split
  · rename_i hs; exact ended_sound h hs
  · exact h
/- going -/
theorem going_done {p : Pl} (h : p.done < 18446744073709551616) {s : Nat} (hs : s < 32) (i : Nat) : (going p s).done.testBit i = true ↔ p.done.testBit i = true ∧ i ≠ s := by
  show (Sm.less p.done (s : Nat)).testBit i = true ↔ _
  rw [Sm.less_test _ _ h]
  simp
  intro _
  omega
theorem less_low {x : Nat} (s : Int) (h : x < 4294967296) : Sm.less x s < 4294967296 := lt32 fun j hj => by
  rw [Sm.less_test _ _ (by omega), Bool.and_eq_true] at hj
  exact test32 h hj.1
theorem cut_low {m : Gr} (a : Nat) (h : ∀ i, i < 32 → m i < 4294967296) : ∀ i, i < 32 → cut m a i < 4294967296 := by
  intro i hi
  unfold cut clr
  apply less_low
  have := h i hi
  split <;> omega
theorem Sound.mok {p : Pl} (h : Sound p) : Mm.Ok p.m := fun i hi => by have := h.low i hi; omega
theorem Sound.done64 {p : Pl} (h : Sound p) : p.done < 18446744073709551616 := by have := h.done32; omega
theorem Sound.live64 {p : Pl} (h : Sound p) : p.live < 18446744073709551616 := by have := h.live32; omega
theorem going_tk {p : Pl} (h : Sound p) {s : Nat} (hs : s < 32) (hd : p.done.testBit s = true) (i : Nat) : tk (going p s) i ↔ tk p i ∧ i ≠ s := by
  unfold tk
  rw [going_done h.done64 hs]
  constructor
  · rintro (h1 | h1)
    · exact ⟨.inl h1, fun e => by subst e; exact h.apart i h1 hd⟩
    · exact ⟨.inr h1.1, h1.2⟩
  · rintro ⟨h1 | h1, h2⟩
    · exact .inl h1
    · exact .inr ⟨h1, h2⟩
theorem going_sound {p : Pl} (h : Sound p) {s : Nat} (hs : s < 32) (hd : p.done.testBit s = true) : Sound (going p s) := by
  have ht := going_tk h hs hd
  have hE := fun i j => cut_E (m := p.m) h.mok hs i j
  refine ⟨h.size, ⟨h.sorted.1, fun i j he => h.sorted.2 i j ((hE i j).1 he).1⟩, cut_low _ h.low, fun i hi => h.inn i ((ht i).1 hi).1, ?_, ?_, h.count, ?_, ?_, ?_⟩
  · intro i h1 h2
    exact h.apart i h1 ((going_done h.done64 hs i).1 h2).1
  · intro i j he
    obtain ⟨h1, h2, h3⟩ := (hE i j).1 he
    have := h.edges i j h1
    exact ⟨(ht i).2 ⟨this.1, h2⟩, (ht j).2 ⟨this.2, h3⟩⟩
  · intro i hi
    show 0 ≤ upd p.ids s 0 i ∧ upd p.ids s 0 i ≤ p.count
    unfold upd
    have := h.ids i hi
    have := h.count
    split <;> omega
  · intro i hi
    have hi := (ht i).1 hi
    show 1 ≤ upd p.ids s 0 i
    unfold upd
    rw [if_neg hi.2]
    exact h.pos i hi.1
  · intro i j hi hj e
    have hi := (ht i).1 hi
    have hj := (ht j).1 hj
    have e : upd p.ids s 0 i = upd p.ids s 0 j := e
    unfold upd at e
    rw [if_neg hi.2, if_neg hj.2] at e
    exact h.uniq i j hi.1 hj.1 e
theorem collect_sound {p : Pl} (h : Sound p) : Sound (collect p).1 :=
  coll_ind (fun p r => Sound p → Sound r.1) (fun _ _ h => h) (fun _ _ _ _ hn ih h => ih (going_sound h (next_spec hn).1 (next_spec hn).2.1)) p h.done64 h
theorem collect_next {p : Pl} (h : p.done < 18446744073709551616) : next (collect p).1 = none :=
  coll_ind (fun _ r => next r.1 = none) (fun _ h => h) (fun _ _ _ _ _ ih => ih) p h
theorem collect_keeps (p : Pl) (h : p.done < 18446744073709551616) : (collect p).1.live = p.live ∧ (collect p).1.size = p.size ∧ (collect p).1.count = p.count :=
  coll_ind (fun p r => r.1.live = p.live ∧ r.1.size = p.size ∧ r.1.count = p.count) (fun _ _ => ⟨rfl, rfl, rfl⟩) (fun _ _ _ _ _ ih => ih) p h
theorem collect_len (p : Pl) (h : p.done < 18446744073709551616) : (collect p).2.length ≤ Sm.count p.done :=
  coll_ind (fun p r => r.2.length ≤ Sm.count p.done) (fun _ _ => Nat.zero_le _) (fun p s r hd hn ih => by
    have := count_less hd (by have := (next_spec hn).1; omega) (next_spec hn).2.1
    have ih : r.2.length ≤ Sm.count (Sm.less p.done (s : Nat)) := ih
    simp; omega) p h
/- acts -/
structure Act where
  kind : Nat
  a : Int
  b : Int
noncomputable def act (p : Pl) (x : Act) : Pl :=
  if x.kind % 6 = 2 ∨ x.kind % 6 = 3 then (edge p x.a x.b).1 else if x.kind % 6 = 4 then (endP p x.a).1 else if x.kind % 6 = 5 then (collect p).1 else (begin p).1
theorem act_sound {p : Pl} (h : Sound p) (x : Act) : Sound (act p x) := by
  unfold act
  split
  · exact edge_sound h _ _
  split
  · exact end_sound h _
  split
  · exact collect_sound h
  · exact begin_sound h
theorem edge_count (p : Pl) (a b : Int) : (edge p a b).1.count = p.count ∧ (edge p a b).1.size = p.size := by
  unfold edge
  split
  · exact ⟨rfl, rfl⟩
  split
  · exact ⟨rfl, rfl⟩
  split <;> exact ⟨rfl, rfl⟩
theorem end_count (p : Pl) (s : Int) : (endP p s).1.count = p.count ∧ (endP p s).1.size = p.size := by
  unfold endP
  split <;> exact ⟨rfl, rfl⟩
theorem begin_count (p : Pl) : (begin p).1.count ≤ p.count + 1 ∧ (begin p).1.size = p.size := by
  unfold begin
  cases ff p with
  | none => exact ⟨by simp; omega, rfl⟩
  | some s => exact ⟨Int.le_refl _, rfl⟩
theorem act_count {p : Pl} (h : p.done < 18446744073709551616) (x : Act) : (act p x).count ≤ p.count + 1 ∧ (act p x).size = p.size := by
  unfold act
  split
  · have := edge_count p x.a x.b; exact ⟨by omega, this.2⟩
  split
  · have := end_count p x.a; exact ⟨by omega, this.2⟩
  split
  · have := collect_keeps p h; exact ⟨by omega, this.2.1⟩
  · exact begin_count p
noncomputable def run (n : Int) (l : Nat → Act) : Nat → Pl
  | 0 => newP n
  | k + 1 => act (run n l k) (l k)
theorem run_sound {n : Int} (h : 1 ≤ n ∧ n ≤ 32) (l : Nat → Act) (k : Nat) : Sound (run n l k) := by
  induction k with
  | zero => exact new_sound h
  | succ k ih => exact act_sound ih _
theorem run_count {n : Int} (h : 1 ≤ n ∧ n ≤ 32) (l : Nat → Act) (k : Nat) : (run n l k).count ≤ (k : Int) ∧ (run n l k).size = n := by
  induction k with
  | zero => exact ⟨Int.le_refl _, rfl⟩
  | succ k ih =>
    have := act_count (run_sound h l k).done64 (l k)
    show (act (run n l k) (l k)).count ≤ _ ∧ (act (run n l k) (l k)).size = n
    omega
end Go.Proofs.YtfdfiiocccafkaaGreatDoor.Po
namespace Go.Proofs.YtfdfiiocccafkaaGreatDoor.Po
open Mm Od
/- the slots that go, in their order -/
def gone : Nat → Pl → List Nat
  | 0, _ => []
  | n + 1, p => match next p with
    | none => []
    | some s => s :: gone n (going p s)
def went (p : Pl) : List Nat := gone (Sm.count p.done) p
theorem went_none {p : Pl} (h : next p = none) : went p = [] := by
  unfold went
  cases Sm.count p.done with
  | zero => rfl
  | succ n => simp [gone, h]
theorem went_some {p : Pl} (hd : p.done < 18446744073709551616) {s : Nat} (h : next p = some s) : went p = s :: went (going p s) := by
  have := count_less hd (by have := (next_spec h).1; omega) (next_spec h).2.1
  unfold went
  rw [← this]
  simp only [gone, h]
  rfl
theorem went_ind (P : Pl → List Nat → Pl × List Int → Prop) (h0 : ∀ p, next p = none → P p [] (p, [])) (h1 : ∀ p s l r, p.done < 18446744073709551616 → next p = some s → P (going p s) l r → P p (s :: l) (r.1, p.ids s :: r.2)) :
    ∀ p, p.done < 18446744073709551616 → P p (went p) (collect p) := by
  have key : ∀ n p, Sm.count p.done = n → p.done < 18446744073709551616 → P p (went p) (collect p) := by
    intro n
    induction n using Nat.strongRecOn with
    | ind n ih =>
      intro p hn hd
      cases hx : next p with
      | none => rw [collect_none hx, went_none hx]; exact h0 p hx
      | some s =>
        rw [collect_some hd hx, went_some hd hx]
        have hs := next_spec hx
        have := count_less hd (by omega) hs.2.1
        exact h1 p s _ _ hd hx (ih (Sm.count (going p s).done) (by show Sm.count (Sm.less p.done (s : Nat)) < n; omega) _ rfl (Sm.less_lt _ hd))
  exact fun p hd => key _ p rfl hd
theorem went_done {p : Pl} (h : p.done < 18446744073709551616) : (∀ s, s ∈ went p → s < 32 ∧ p.done.testBit s = true) ∧ (∀ s, (collect p).1.done.testBit s = true ↔ p.done.testBit s = true ∧ s ∉ went p) :=
  went_ind (fun p l r => (∀ s, s ∈ l → s < 32 ∧ p.done.testBit s = true) ∧ (∀ s, r.1.done.testBit s = true ↔ p.done.testBit s = true ∧ s ∉ l))
    (fun p _ => ⟨fun s hs => by simp at hs, fun s => by simp⟩)
    (fun p s l r hd hn ih => by
      have hs := next_spec hn
      refine ⟨fun t ht => ?_, fun t => ?_⟩
      · rw [List.mem_cons] at ht
        rcases ht with rfl | ht
        · exact ⟨hs.1, hs.2.1⟩
        · have := ih.1 t ht
          exact ⟨this.1, ((going_done hd hs.1 t).1 this.2).1⟩
      · rw [ih.2 t, going_done hd hs.1 t, List.mem_cons]
        constructor
        · rintro ⟨⟨h1, h2⟩, h3⟩; exact ⟨h1, fun h => h.elim h2 h3⟩
        · rintro ⟨h1, h2⟩; exact ⟨⟨h1, fun h => h2 (.inl h)⟩, fun h => h2 (.inr h)⟩) p h
theorem went_nodup {p : Pl} (h : p.done < 18446744073709551616) : (went p).Nodup :=
  (went_ind (fun p l _ => l.Nodup ∧ ∀ s, s ∈ l → p.done.testBit s = true) (fun p _ => ⟨List.nodup_nil, fun s hs => by simp at hs⟩)
    (fun p s l r hd hn ih => by
      have hs := next_spec hn
      refine ⟨List.nodup_cons.2 ⟨fun hm => ?_, ih.1⟩, fun t ht => ?_⟩
      · exact ((going_done hd hs.1 s).1 (ih.2 s hm)).2 rfl
      · rw [List.mem_cons] at ht
        rcases ht with rfl | ht
        · exact hs.2.1
        · exact ((going_done hd hs.1 t).1 (ih.2 t ht)).1) p h).1
theorem went_ids {p : Pl} (h : p.done < 18446744073709551616) : (collect p).2 = (went p).map p.ids :=
  (went_ind (fun p l r => r.2 = l.map p.ids ∧ ∀ s, s ∈ l → p.done.testBit s = true) (fun p _ => ⟨rfl, fun s hs => by simp at hs⟩)
    (fun p s l r hd hn ih => by
      have hs := next_spec hn
      refine ⟨?_, fun t ht => ?_⟩
      · show p.ids s :: r.2 = p.ids s :: l.map p.ids
        rw [ih.1]
        refine congrArg (p.ids s :: ·) (List.map_congr_left fun t ht => ?_)
        have := ((going_done hd hs.1 t).1 (ih.2 t ht)).2
        show upd p.ids s 0 t = p.ids t
        unfold upd
        rw [if_neg this]
      · rw [List.mem_cons] at ht
        rcases ht with rfl | ht
        · exact hs.2.1
        · exact ((going_done hd hs.1 t).1 (ih.2 t ht)).1) p h).1
/-- who goes goes behind all that it is behind. -/
theorem went_order {p : Pl} (h : p.done < 18446744073709551616) (hm : Mm.Ok p.m) : ∀ (y b a : Nat), (went p)[y]? = some b → E p.m a b → ∃ x, x < y ∧ (went p)[x]? = some a :=
  went_ind (fun p l _ => Mm.Ok p.m → ∀ (y b a : Nat), l[y]? = some b → E p.m a b → ∃ x, x < y ∧ l[x]? = some a) (fun p _ _ y b a hy => by simp at hy)
    (fun p s l r hd hn ih hm y b a hy he => by
      have hs := next_spec hn
      cases y with
      | zero =>
        simp at hy
        subst hy
        exact absurd he (hs.2.2 a)
      | succ y =>
        rw [List.getElem?_cons_succ] at hy
        by_cases ha : a = s
        · exact ⟨0, by omega, by rw [ha]; rfl⟩
        · by_cases hb : b = s
          · rw [hb] at he; exact absurd he (hs.2.2 a)
          · obtain ⟨x, hx, e⟩ := ih (cut_ok s hm) y b a hy ((cut_E hm hs.1 a b).2 ⟨he, ha, hb⟩)
            exact ⟨x + 1, by omega, by rw [List.getElem?_cons_succ]; exact e⟩) p h hm
/-- nothing that is behind something live goes. -/
theorem went_back {p : Pl} (h : Sound p) {b a : Nat} (hb : b ∈ went p) (hw : W (E p.m) a b) : a ∈ went p := by
  induction hw with
  | one he =>
    obtain ⟨y, hy, e⟩ := List.mem_iff_getElem.1 hb
    obtain ⟨x, _, hx⟩ := went_order h.done64 h.mok y _ _ (by rw [List.getElem?_eq_getElem hy, e]) he
    exact List.mem_of_getElem? hx
  | more _ he ih =>
    obtain ⟨y, hy, e⟩ := List.mem_iff_getElem.1 hb
    obtain ⟨x, _, hx⟩ := went_order h.done64 h.mok y _ _ (by rw [List.getElem?_eq_getElem hy, e]) he
    exact ih (List.mem_of_getElem? hx)
theorem back_live {p : Pl} (h : Sound p) {i : Nat} (hd : p.done.testBit i = true) (hq : (collect p).1.done.testBit i = false) : Mm.ways (fun a b => E p.m b a) i &&& p.live = 0 := by
  apply Sm.ext
  intro j
  rw [Nat.testBit_and]
  cases hw : (Mm.ways (fun a b => E p.m b a) i).testBit j
  · simp
  · have hi : i ∈ went p := by
      apply Classical.byContradiction
      intro hn
      have := ((went_done h.done64).2 i).2 ⟨hd, hn⟩
      rw [hq] at this; cases this
    have := went_back h hi ((flip_way p.m i j).1 ((ways_test _ _ _).1 hw).2)
    cases hl : p.live.testBit j
    · simp
    · exact (h.apart j hl ((went_done h.done64).1 j this).2).elim
/- if nothing is live -/
theorem all_go {p : Pl} (h : Sound p) (hl : p.live = 0) (hn : next p = none) : p.done = 0 := by
  have key : ∀ n : Nat, ∀ s, p.done.testBit s = true → p.o s = (n : Int) → False := by
    intro n
    induction n using Nat.strongRecOn with
    | ind n ih =>
      intro s hs e
      have hs32 := h.tk32 (.inr hs)
      obtain ⟨j, hj⟩ := next_none hn hs32 hs
      have ht := (h.edges j s hj).1
      have hjd : p.done.testBit j = true := by
        rcases ht with h1 | h1
        · rw [hl] at h1; simp at h1
        · exact h1
      have hlt := h.sorted.2 j s hj
      have hp := h.sorted.1.pl hj.1
      rw [hp.1] at hlt
      exact ih (Od.pl p.o j) (by omega) j hjd hp.1
  apply Sm.ext
  intro s
  cases hs : p.done.testBit s
  · simp
  · exact (key _ s hs (h.sorted.1.pl (h.tk32 (.inr hs))).1).elim
theorem none_zero {p : Pl} (h : Sound p) (hl : p.live = 0) (hd : p.done = 0) (i : Nat) (hi : i < 32) : p.m i = 0 := by
  apply Sm.ext
  intro j
  cases hb : (p.m i).testBit j
  · simp
  · have hj := test32 (h.low i hi) hb
    have := (h.edges i j ⟨hi, hj, hb⟩).1
    rcases this with h1 | h1
    · rw [hl] at h1; simp at h1
    · rw [hd] at h1; simp at h1
/- ending all -/
def endTo (q : Pl) (l : List Nat) : Pl := l.foldl (fun p (i : Nat) => (endP p (i : Nat)).1) q
theorem endTo_snoc (q : Pl) (l : List Nat) (k : Nat) : endTo q (l ++ [k]) = (endP (endTo q l) (k : Nat)).1 := by simp [endTo]
theorem endTo_sound {q : Pl} (h : Sound q) (l : List Nat) : Sound (endTo q l) := by
  unfold endTo
  induction l generalizing q with
  | nil => exact h
  | cons c r ih => exact ih (end_sound h _)
theorem endTo_live {q : Pl} (h : Sound q) (l : List Nat) (j : Nat) : (endTo q l).live.testBit j = true ↔ q.live.testBit j = true ∧ j ∉ l := by
  induction l generalizing q with
  | nil => simp [endTo]
  | cons c r ih =>
    have e : endTo q (c :: r) = endTo (endP q (c : Nat)).1 r := rfl
    rw [e, ih (end_sound h _), List.mem_cons]
    have hl := h.live64
    unfold endP
    by_cases hc : Sm.has q.live (c : Nat) = true
    · rw [if_pos hc]
      show (Sm.less q.live (c : Nat)).testBit j = true ∧ j ∉ r ↔ _
      rw [Sm.less_test _ _ hl]
      rw [Sm.has_nat _ hl] at hc
      have := test32 h.live32 hc
      constructor
      · rintro ⟨h1, h2⟩
        simp at h1
        exact ⟨h1.1, fun x => by rcases x with x | x; (have := h1.2; omega); exact h2 x⟩
      · rintro ⟨h1, h2⟩
        refine ⟨?_, fun x => h2 (.inr x)⟩
        rw [h1, decide_eq_false (fun x => h2 (.inl (by omega)))]
        rfl
    · rw [if_neg hc]
      rw [Sm.has_nat _ hl] at hc
      constructor
      · rintro ⟨h1, h2⟩; exact ⟨h1, fun x => by rcases x with x | x; (subst x; exact hc h1); exact h2 x⟩
      · rintro ⟨h1, h2⟩; exact ⟨h1, fun x => h2 (.inr x)⟩
theorem endTo_keeps (q : Pl) (l : List Nat) : (endTo q l).m = q.m ∧ (endTo q l).o = q.o ∧ (endTo q l).count = q.count ∧ (endTo q l).size = q.size ∧ (endTo q l).ids = q.ids := by
  induction l generalizing q with
  | nil => exact ⟨rfl, rfl, rfl, rfl, rfl⟩
  | cons c r ih =>
    have e : endTo q (c :: r) = endTo (endP q (c : Nat)).1 r := rfl
    rw [e]
    have := ih (endP q (c : Nat)).1
    have h2 : (endP q (c : Nat)).1.m = q.m ∧ (endP q (c : Nat)).1.o = q.o ∧ (endP q (c : Nat)).1.count = q.count ∧ (endP q (c : Nat)).1.size = q.size ∧ (endP q (c : Nat)).1.ids = q.ids := by
      unfold endP
      split <;> exact ⟨rfl, rfl, rfl, rfl, rfl⟩
    exact ⟨this.1.trans h2.1, this.2.1.trans h2.2.1, this.2.2.1.trans h2.2.2.1, this.2.2.2.1.trans h2.2.2.2.1, this.2.2.2.2.trans h2.2.2.2.2⟩
theorem endAll_live {q : Pl} (h : Sound q) : (endTo q (Sm.items q.live)).live = 0 := by
  apply Sm.ext
  intro j
  cases hb : (endTo q (Sm.items q.live)).live.testBit j
  · simp
  · have := (endTo_live h _ j).1 hb
    exact (this.2 (Sm.items_mem.2 ⟨by have := test32 h.live32 this.1; omega, this.1⟩)).elim
theorem room {p : Pl} (h : Sound p) (hl : p.live = 0) : (collect p).1.done = 0 ∧ (collect p).1.live = 0 ∧ ∀ i, i < 32 → (collect p).1.m i = 0 := by
  have hs := collect_sound h
  have hk := collect_keeps p h.done64
  have hl' : (collect p).1.live = 0 := hk.1.trans hl
  have hd := all_go hs hl' (collect_next h.done64)
  exact ⟨hd, hl', none_zero hs hl' hd⟩
/- the count of a full pool -/
theorem full_count {p : Pl} (h : Sound p) (hf : ff p = none) : ((Sm.count (p.live ||| p.done) : Nat) : Int) = p.size := by
  have hsz := h.size
  obtain ⟨n, hn⟩ := Int.eq_ofNat_of_zero_le (show 0 ≤ p.size by omega)
  have hn32 : n ≤ 32 := by omega
  have e : Sm.items (p.live ||| p.done) = List.range n := by
    unfold Sm.items
    have h1 : ∀ j, j ∈ List.range 64 → (p.live ||| p.done).testBit j = decide (j < n) := by
      intro j _
      rw [Bool.eq_iff_iff, decide_eq_true_eq, ← tk_or]
      constructor
      · intro ht
        have := h.inn j ht
        omega
      · intro hj
        have := ff_full hf j (by omega)
        unfold freeAt at this
        rw [decide_eq_true (by omega : ((j : Nat) : Int) < p.size)] at this
        rw [tk_or]
        cases hb : (p.live ||| p.done).testBit j
        · rw [hb] at this; simp at this
        · rfl
    rw [List.filter_congr h1]
    have key : ∀ k, n ≤ k → (List.range k).filter (fun j => decide (j < n)) = List.range n := by
      intro k hk
      induction k with
      | zero => obtain rfl : n = 0 := by omega
                rfl
      | succ k ih =>
        rcases Nat.lt_or_ge k n with h1 | h1
        · obtain rfl : n = k + 1 := by omega
          rw [List.filter_eq_self]
          intro a ha
          simpa using ha
        · rw [List.range_succ, List.filter_append, ih h1]
          simp; omega
    exact key 64 (by omega)
  unfold Sm.count
  rw [e, List.length_range]
  omega
/-- who begins stands behind all that are over. -/
theorem begun_behind {p : Pl} (h : Sound p) {s : Nat} (hf : ff p = some s) {i : Nat} (hi : i ∈ Sm.items p.done) : E (begun p s).m i s ∧ (begun p s).o i < (begun p s).o s := by
  have hs := ff_spec hf
  have hI := begun_inv h hs.1 (freeAt_tk hs.2.1).2
  exact ⟨hI.has i hi, hI.sorted.2 i s (hI.has i hi)⟩
/- the document's sound -/
theorem cut_free {p : Pl} (h : Sound p) {i : Nat} (hi : i < 32) (hf : ¬ tk p i) (k : Nat) (hk : k < 32) : cut p.m i k = p.m k := by
  apply Sm.ext
  intro j
  have hno : ∀ a b, E p.m a b → a ≠ i ∧ b ≠ i := fun a b he => ⟨fun e => hf (e ▸ (h.edges a b he).1), fun e => hf (e ▸ (h.edges a b he).2)⟩
  cases hb : (p.m k).testBit j
  · cases hc : (cut p.m i k).testBit j
    · rfl
    · unfold cut at hc
      rw [Sm.less_test _ _ (clr_ok i h.mok k hk), Bool.and_eq_true] at hc
      unfold clr at hc
      split at hc
      · rw [clr_test, hb] at hc; simp at hc
      · rw [hb] at hc; simp at hc
  · have hj := test32 (h.low k hk) hb
    have he : E p.m k j := ⟨hk, hj, hb⟩
    exact ((cut_E h.mok hi k j).2 ⟨he, hno k j he⟩).2.2
end Go.Proofs.YtfdfiiocccafkaaGreatDoor.Po
