/-
  Orders in memory; the table behind calls; the steps of regions that draw their order.
-/
import Derived.Test.YtakoceablbgchaaDoorMatSame
import Derived.Test.YtakoceablbgchaaDoorTopoIns
import Derived.Deep.WholeRow
import Derived.Deep.MidRow
namespace Go.Proofs.YtakoceablbgchaaDoor
open Go.RowKit
/-- an order as the program holds it. -/
def ordA (o : Od.O) : Array Value := ((List.range 32).map fun i => Value.int .i64 (o i)).toArray
theorem ordA_size (o : Od.O) : (ordA o).size = 32 := by simp [ordA]
theorem ordA_get (o : Od.O) (i : Nat) (h : i < 32) : (ordA o)[i]? = some (.int .i64 (o i)) := by simp [ordA, h]
theorem ordA_ext {o q : Od.O} (h : ∀ i, i < 32 → o i = q i) : ordA o = ordA q := by
  apply Array.ext_getElem?
  intro i
  by_cases hi : i < 32
  · rw [ordA_get o i hi, ordA_get q i hi, h i hi]
  · rw [Array.getElem?_eq_none (by rw [ordA_size]; omega), Array.getElem?_eq_none (by rw [ordA_size]; omega)]
def zeroO : Od.O := fun _ => 0
theorem ordA_zero : ordA zeroO = Array.replicate 32 (Value.int .i64 0) := by
  apply Array.ext_getElem?
  intro i
  by_cases h : i < 32
  · rw [ordA_get _ i h]; simp [h, zeroO]
  · rw [Array.getElem?_eq_none (by rw [ordA_size]; omega), Array.getElem?_eq_none (by simp; omega)]
theorem ordA_set (o : Od.O) (k : Nat) (v : Int) : (ordA o).setIfInBounds k (.int .i64 v) = ordA (Od.upd o k v) := by
  apply Array.ext_getElem?
  intro i
  by_cases h : i < 32
  · rw [Array.getElem?_setIfInBounds, ordA_get (Od.upd o k v) i h, ordA_get o i h]
    unfold Od.upd
    by_cases e : k = i
    · subst e
      simp [ordA_size, h]
    · have : ¬ i = k := fun x => e x.symm
      simp [e, this]
  · rw [Array.getElem?_eq_none (by simp [ordA_size]; omega), Array.getElem?_eq_none (by rw [ordA_size]; omega)]
theorem ordA_one (o : Od.O) : (ordA o).all (·.oneCell') = true := by
  rw [Array.all_eq_true]
  intro i hi
  rw [ordA_size] at hi
  have := ordA_get o i hi
  rw [Array.getElem?_eq_getElem (by rw [ordA_size]; exact hi)] at this
  injection this with this
  rw [this]; rfl
theorem ord_info : (Tryd.prog.info? 29).map (·.size) = some 32 := by kernel_rfl
theorem ordInfo (o : Od.O) : (Tryd.prog.info? 29).map (·.size) = some (ordA o).size := by rw [ordA_size]; exact ord_info
theorem rord_info : (Tryd.prog.info? 36).map (·.size) = some 32 := by kernel_rfl
theorem rordInfo (o : Od.O) : (Tryd.prog.info? 36).map (·.size) = some (ordA o).size := by rw [ordA_size]; exact rord_info
/-- the block g holds the order o. -/
def OrdAt (w : World) (g : Nat) (o : Od.O) (t : Nat) : Prop := w.heap[g]? = some (.cells (ordA o) t (0, 0))
theorem OrdAt.cell {w : World} {g : Nat} {o : Od.O} {t : Nat} (h : OrdAt w g o t) (i : Nat) (hi : i < 32) : w.cell? ⟨g, i, none⟩ = some (.int .i64 (o i)) := by
  rw [cell_of_row _ _ _ _ _ _ h, ordA_get o i hi]
theorem OrdAt.frozen {w : World} {g : Nat} {o : Od.O} {t : Nat} (h : OrdAt w g o t) (i : Nat) : w.frozen? ⟨g, i, none⟩ = false := frozen_of_row h
theorem OrdAt.lt {w : World} {g : Nat} {o : Od.O} {t : Nat} (h : OrdAt w g o t) : g < w.heap.size := (Array.getElem?_eq_some_iff.1 h).1
theorem OrdAt.below {w w' : World} {g : Nat} {o : Od.O} {t : Nat} (h : OrdAt w g o t) (hb : Below w.heap.size w w') : OrdAt w' g o t := (hb.block g h.lt).trans h
theorem OrdAt.alloc {w : World} {g : Nat} {o : Od.O} {t : Nat} (h : OrdAt w g o t) (ob : Obj) : OrdAt (w.alloc ob) g o t := (Below.heap_alloc w ob g h.lt).trans h
theorem OrdAt.setRow {w : World} {g k : Nat} {o : Od.O} {t : Nat} (h : OrdAt w g o t) (cs : Array Value) (hk : g ≠ k) : OrdAt (w.setRow k cs) g o t := (setRow_other w k g cs hk).trans h
theorem OrdAt.drew {w : World} {g : Nat} {o : Od.O} {t : Nat} (h : OrdAt w g o t) : OrdAt w.drew g o t := h
theorem OrdAt.setCell {w : World} {g : Nat} {o : Od.O} {t : Nat} (h : OrdAt w g o t) (a : Addr) (v : Value) (hk : g ≠ a.block) : OrdAt (w.setCell a v) g o t := (Below.heap_setCell w a v g hk).trans h
theorem ordAt_new (w : World) (o : Od.O) (t : Nat) : OrdAt (w.alloc (.cells (ordA o) t)) w.heap.size o t := heap_alloc_new w _
theorem ordAt_put {w : World} {g : Nat} {o q : Od.O} {t : Nat} (h : OrdAt w g o t) : OrdAt (w.setRow g (ordA q)) g q t := setRow_heap _ _ _ _ _ _ h
theorem ordAt_cell {w : World} {g k : Nat} {v : Int} {o : Od.O} {t : Nat} (h : OrdAt w g o t) : OrdAt (w.setCell ⟨g, k, none⟩ (.int .i64 v)) g (Od.upd o k v) t := by
  unfold OrdAt
  rw [heap_set h, ordA_set]
theorem OrdAt.ext {w : World} {g : Nat} {o q : Od.O} {t : Nat} (h : OrdAt w g o t) (e : ∀ i, i < 32 → o i = q i) : OrdAt w g q t := by
  unfold OrdAt; rw [← ordA_ext e]; exact h
theorem zeroO_lit (w : World) (t : Nat) : OrdAt (w.alloc (.cells (Array.replicate 32 (Value.int .i64 0)) t)) w.heap.size zeroO t := by
  unfold OrdAt; rw [ordA_zero]; exact heap_alloc_new _ _
theorem ord_ne {w : World} {g k : Nat} {o : Od.O} {m : Mm.Gr} {t u : Nat} (h : OrdAt w g o t) (h2 : MatAt w k m u) : g ≠ k := by
  rintro rfl
  unfold OrdAt at h
  unfold MatAt at h2
  rw [h] at h2
  injection h2 with h2
  injection h2 with h2 _ _
  have := congrArg (fun a : Array Value => a[0]?) h2
  rw [ordA_get o 0 (by decide), matA_get m 0 (by decide)] at this
  simp at this
/- are two orders the same? -/
def sameO (o q : Od.O) : Bool := (List.range 32).all fun i => o i == q i
theorem sameO_iff (o q : Od.O) : sameO o q = true ↔ ∀ i, i < 32 → o i = q i := by
  unfold sameO
  rw [List.all_eq_true]
  simp
theorem sameO_self (o : Od.O) : sameO o o = true := (sameO_iff o o).2 fun _ _ => rfl
theorem sameM_self (m : Mm.Gr) : sameM m m = true := (sameM_iff m m).2 fun _ _ => rfl
theorem plain_int : Tryd.prog.plainKey 3 = true := by kernel_rfl
theorem cells_int : Tryd.prog.cellsOf 3 = 1 := by kernel_rfl
theorem info_int : (Tryd.prog.info? 3).isSome = true := by kernel_rfl
theorem eqItems_ord (w : World) (d : Nat) (o q : Od.O) (is : List Nat) (h : ∀ i ∈ is, i < 32) :
    (Op.eqItems (d + 1) 3 1 (ordA o) (ordA q) is).run Tryd.prog w = .ok (is.all fun i => o i == q i) w := by
  induction is with
  | nil => simp [Op.eqItems]
  | cons i is ih =>
    have hi := h i (by simp)
    simp only [Op.eqItems, Sem.run_bind, Nat.mul_one, run_part_plain w plain_int (ordA_get o i hi), run_part_plain w plain_int (ordA_get q i hi), run_equalIn_int w d 3 .i64 .i64 _ _ Tryd.underlying3, Result.andThen_ok]
    cases hb : (o i == q i)
    · simp [hb]
    · simp [hb, ih (fun j hj => h j (by simp [hj]))]
theorem eq_ord (o q : Od.O) (b : Bool) (h : sameO o q = b) (w : World) : (Op.equalIn 10000 29 (.agg (ordA o)) (.agg (ordA q))).run Tryd.prog w = .ok b w := by
  obtain ⟨i, hi⟩ := Option.isSome_iff_exists.1 info_int
  rw [← h, run_equalIn_array w 9999 (ordA o) (ordA q) Tryd.underlying29 hi, cells_int]
  exact eqItems_ord w 9998 o q _ (by simp)
theorem eq_rord (o q : Od.O) (b : Bool) (h : sameO o q = b) (w : World) : (Op.equalIn 10000 36 (.agg (ordA o)) (.agg (ordA q))).run Tryd.prog w = .ok b w := by
  obtain ⟨i, hi⟩ := Option.isSome_iff_exists.1 info_int
  rw [← h, run_equalIn_array w 9999 (ordA o) (ordA q) Tryd.underlying36 hi, cells_int]
  exact eqItems_ord w 9998 o q _ (by simp)
theorem size_int (w : World) : (sizeOf 3).run Tryd.prog w = .ok 1 w := by
  obtain ⟨i, hi⟩ := Option.isSome_iff_exists.1 info_int
  rw [run_sizeOf w hi, cells_int]
theorem index_ord (o : Od.O) (k : Nat) (h : k < 32) (w : World) : (Instr.index 29 (.agg (ordA o)) (.int .i64 (k : Nat))).run Tryd.prog w = .ok (.int .i64 (o k)) w := by
  have h1 : 0 ≤ (k : Int) ∧ (k : Int) < ((32 : Nat) : Int) := by omega
  simp only [Instr.index, asIntOf, Sem.run_bind, Sem.run_pure, Result.andThen_ok, run_underlying Tryd.underlying29, h1, size_int, Int.toNat_natCast, Nat.mul_one, run_part_plain w plain_int (ordA_get o k h), and_self, if_true]
/- the table; what is there -/
theorem zero_ok : Mm.Ok zeroM := fun _ _ => by simp [zeroM]
theorem zero_E (i j : Nat) : ¬ Mm.E zeroM i j := fun h => by simp [Mm.E, zeroM] at h
theorem tab_below {w w' : World} (h : TabAt w) (hb : Below w.heap.size w w') : TabAt w' := h.below hb h.lt
theorem tab_row {w : World} {g : Nat} {cs : Array Value} (h : TabAt w) (hg : 0 ≠ g) : TabAt (w.setRow g cs) := fun j hj => (cell_setRow_other w g cs ⟨0, j, none⟩ hg).trans (h j hj)
theorem below_new (W : World) (o : Obj) : Below W.heap.size W (W.alloc o) := (Below.refl _ _).alloc (Nat.le_refl _) _
theorem below_drew (W : World) : Below W.heap.size W W.drew := (Below.refl _ _).drew
theorem below_drewN {B : Nat} {a w : World} (h : Below B a w) (n : Nat) : Below B a (w.drewN n) := ⟨h.os, h.tape, h.output, h.size, h.block⟩
theorem cell_lt {w : World} {p : Addr} {v : Value} (h : w.cell? p = some v) : p.block < w.heap.size := by
  rcases Nat.lt_or_ge p.block w.heap.size with hl | hg
  · exact hl
  · simp [World.cell?, Array.getElem?_eq_none hg] at h
theorem add_block (a : Addr) (n : Nat) : (a.add n).block = a.block := by unfold Addr.add; split <;> rfl
/- for regions that draw their order -/
theorem yields_row {ops : Array Oper} {S : World → Prop} {op : Oper} {a : Act} (hw : Region.wanted op (yielded ops a.tmps) = true) (ty : TypeId) (x : Operand) (ho : op.op = .load ty x)
    (b : Nat) (hx : a.eval x = .pointer (some ⟨b, 0, none⟩)) (t : Nat) (cs : Array Value) {n : Nat} {el : TypeId} (hS : ∀ w, S w → w.heap[b]? = some (.cells cs t (0, 0)))
    (hu : Tryd.prog.underlying ty = some (.array n el)) (hi : (Tryd.prog.info? ty).map (·.size) = some cs.size) : YieldsIf Tryd.prog ops S op (.agg cs) a :=
  .inl ⟨hw, fun w hw' => by
    unfold execOp
    simp only [ho, hx, Instr.loadAt, Instr.sureAddr, Sem.run_bind, Sem.run_pure, Result.andThen_ok, run_loadVar_row w b t ty cs (0, 0) _ (hS w hw') hu rfl hi]⟩
theorem take_at {ops : Array Oper} {Q : Exit → Act → World → Prop} {md : Region.Mode} {S : World → Prop} (i d : Nat) (v : Value) {oi : Oper} {fuel : Nat} {listed : Array Bool} {a : Act} {w : World} (hi : ops[i]? = some oi) (hd : oi.dst = some d)
    (hs : Region.noSelect ops = true) (hf : Region.free md ops listed i = true) (hr : (Region.ready md ops listed).contains i = true)
    (hQ : ∀ c a w, Q (.panic c) (a.put oi.dst v) w → Q (.panic c) a w) (hy : YieldsIf Tryd.prog ops S oi v a) (hS : S w)
    (h : wpAnyH Tryd.prog md ops Q S fuel (listed.setIfInBounds i true) (a.put (some d) v) w) : wpAnyH Tryd.prog md ops Q S (fuel + 1) listed a w :=
  wpAnyH_take hi hs hf hr hQ hy hS (by rw [hd]; exact h)
theorem region_start {id : Nat} {ops : Array Oper} {Q : Exit → Act → World → Prop} {S : World → Prop} {a : Act} {w : World} (n : Nat) (hn : ops.size = n) (hm : Tryd.prog.follows .mixedOrders = true) (hS : S w.drew)
    (h : S w.drew → wpAnyH Tryd.prog .any ops Q S n (Array.replicate n false) a w.drew) : (Code.region id ops true).wp Tryd.prog Q a w := by
  subst hn
  exact wp_region_held_drew hm hS h
end Go.Proofs.YtakoceablbgchaaDoor
