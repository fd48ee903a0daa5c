/-
  Maps from whole numbers to the numbers of events, as functions: looked up, written, ranged over.
-/
import Derived.Test.YtcfdndppkpjleaaHMath
import Derived.Test.YtcfdndppkpjleaaRowN
import Derived.Maps.OwnIn
import Derived.Maps.OwnSet
import Derived.Maps.Views
import Derived.Maps.RangeWalk
import Derived.Deep.WholeRow
namespace Go.Proofs.Ytcfdndppkpjleaa.Hi
open Go.RowKit
open Go.Maps (Keyed int_keyed keyOf_int_mk)
open Tx (i64p)
def nv (o : Option Nat) : Value := .int .i64 ((o.getD 0 : Nat) : Int)
/-- all that the map says is a number of the program. -/
def Fit (f : Int → Option Nat) : Prop := ∀ x k, f x = some k → 0 ≤ x ∧ x < 64 ∧ k < 4096
/-- D reads as f. -/
structure Rd (D : DataW Value) (sz : Nat) (f : Int → Option Nat) : Prop where
  tidy : Maps.Tidy D
  size : Maps.size D = sz
  has : ∀ x, Maps.has D (.int .i64 x) = (f x).isSome
  at_ : ∀ x, D.atKey (.int .i64 x) (.lit (.int .i64 0)) = .lit (.int .i64 (((f x).getD 0 : Nat) : Int))

/-- the block b is a map of sz entries, at most n, that reads as f. -/
def NM (W : World) (b n sz : Nat) (f : Int → Option Nat) : Prop := ∃ D : DataW Value, W.ownsMap Try.prog 3 (plainElem Try.prog 3) b n D ∧ Rd D sz f
theorem wf_i64 {z : Int} (h : i64p z) : (Lit.int .i64 z).wf = true := by
  obtain ⟨h0, h1⟩ := h
  have e0 : IntKind.i64.min = -9223372036854775808 := by decide
  have e1 : IntKind.i64.max = 9223372036854775807 := by decide
  simp only [Lit.wf, e0, e1, Bool.and_eq_true, decide_eq_true_eq]
  exact ⟨h0, h1⟩
theorem wf_inv {z : Int} (h : (Lit.int .i64 z).wf = true) : i64p z := by
  have e0 : IntKind.i64.min = -9223372036854775808 := by decide
  have e1 : IntKind.i64.max = 9223372036854775807 := by decide
  simp only [Lit.wf, e0, e1, Bool.and_eq_true, decide_eq_true_eq] at h
  exact h
set_option maxRecDepth 100000 in
theorem zero_int (w : World) : (zeroValue 3).run Try.prog w = .ok (.int .i64 0) w := by
  have h : (Try.prog.info? 3).map (fun i => (i.zero, i.size)) = some (some (.int .i64 0), 1) := by kernel_rfl
  exact (zero_of_info h).1 w
theorem NM.lt {W : World} {b n sz : Nat} {f : Int → Option Nat} (h : NM W b n sz f) : b < W.heap.size := by
  obtain ⟨D, ho, _⟩ := h
  exact ho.lt
theorem nm_made (W : World) : NM (W.alloc (.map #[] 0)) W.heap.size 0 0 (fun _ => none) :=
  ⟨.map [], World.ownsMap_made W _ _ _, Maps.tidy_empty, rfl, fun _ => rfl, fun _ => rfl⟩
theorem nm_made' {W : World} {b : Nat} (h : W.heap.size = b) : NM (W.alloc (.map #[] 0)) b 0 0 (fun _ => none) := by subst h; exact nm_made W
theorem NM.keep {W W' : World} {b n sz B : Nat} {f : Int → Option Nat} (h : NM W b n sz f) (hb : Below B W W') (hB : b < B) : NM W' b n sz f := by
  obtain ⟨D, ⟨es, clock, hh, F, hs, hD⟩, hm⟩ := h
  exact ⟨D, ⟨es, clock, (hb.block b hB).trans hh, F, hs, hD⟩, hm⟩
theorem NM.below {W W' : World} {b n sz : Nat} {f : Int → Option Nat} (h : NM W b n sz f) (hb : Below W.heap.size W W') : NM W' b n sz f := h.keep hb h.lt
theorem NM.kept {W W' : World} {b n sz : Nat} {row : Option Nat} {f : Int → Option Nat} (h : NM W b n sz f) (hg : W.grownBy W' row) (hne : some b ≠ row) : NM W' b n sz f := by
  obtain ⟨D, ho, hm⟩ := h
  exact ⟨D, ho.kept hg hne, hm⟩
theorem NM.alloc {W : World} {b n sz : Nat} {f : Int → Option Nat} (h : NM W b n sz f) (o : Obj) : NM (W.alloc o) b n sz f := h.keep (Rn.below_new W o) h.lt
theorem NM.mono {W : World} {b n m sz : Nat} {f : Int → Option Nat} (h : NM W b n sz f) (hm : n ≤ m) : NM W b m sz f := by
  obtain ⟨D, ho, hr⟩ := h
  exact ⟨D, ho.mono hm, hr⟩
/-- the block is a map and no row. -/
theorem NM.ne {W : World} {b n sz g : Nat} {f : Int → Option Nat} {c : Array Value} {t : TypeId} {fr : Nat × Nat} (h : NM W b n sz f) (hg : W.heap[g]? = some (.cells c t fr)) : b ≠ g := by
  rintro rfl
  obtain ⟨D, ⟨es, clock, hh, _⟩, _⟩ := h
  rw [hh] at hg; cases hg
theorem NM.look {W : World} {b n sz : Nat} {f : Int → Option Nat} (h : NM W b n sz f) {x : Int} (hx : i64p x) :
    (Instr.lookup 80 (.map (some b)) (.int .i64 x) true).run Try.prog W = .ok (.tuple #[nv (f x), .bool (f x).isSome]) W := by
  obtain ⟨D, ho, hr⟩ := h
  obtain ⟨v, ps, hrun, hv⟩ := ho.look_ok (int_keyed Try.underlying3) Try.underlying80 (zero_int W) (zd := .lit (.int .i64 0)) (zp := []) (plainElem_int Try.underlying3 (wf_i64 ⟨by decide, by decide⟩)) (keyOf_int_mk Try.underlying3 (wf_i64 hx))
  rw [hr.at_ x] at hv
  obtain ⟨a, rfl, he, _⟩ := plainElem_int_inv Try.underlying3 hv
  simp only [Prod.mk.injEq, DataW.lit.injEq, Lit.int.injEq, true_and] at he
  rw [hrun, hr.has x, ← he.1]; rfl
theorem NM.update {W : World} {b n sz : Nat} {f : Int → Option Nat} (h : NM W b n sz f) (hn : n < 4096) {x : Int} (hx : i64p x) (k : Nat) (hk : k < 4096) :
    ∃ W', (Instr.mapUpdate 80 (.map (some b)) (.int .i64 x) (.int .i64 (k : Nat))).run Try.prog W = .ok () W' ∧ NM W' b (n + 1) (if (f x).isSome then sz else sz + 1) (upd f x k) ∧ W.grownBy W' (some b) := by
  obtain ⟨D, ho, hr⟩ := h
  obtain ⟨W', hrun, r1, r2⟩ := ho.update (int_keyed Try.underlying3) Try.underlying80 (by unfold maxLen; omega) (keyOf_int_mk Try.underlying3 (wf_i64 hx)) (val := .int .i64 (k : Nat)) (d := .lit (.int .i64 (k : Nat))) (ps := []) (plainElem_int Try.underlying3 (wf_i64 ⟨by omega, by omega⟩))
  refine ⟨W', hrun, ⟨_, r1, hr.tidy.put (by simp [WideAt.IsKeyLit]) _, ?_, ?_, ?_⟩, r2⟩
  · rw [Maps.size_put hr.tidy, hr.has x, hr.size]
  · intro y
    show _ = (if y = x then some k else f y).isSome
    by_cases e : y = x
    · subst e
      rw [if_pos rfl, Maps.has_put_same hr.tidy.isMap (by simp [WideAt.IsKeyLit])]; rfl
    · rw [if_neg e, Maps.has_put_other (by simpa using e), hr.has y]
  · intro y
    show _ = DataW.lit (Lit.int .i64 (((if y = x then some k else f y).getD 0 : Nat) : Int))
    by_cases e : y = x
    · subst e
      rw [if_pos rfl, Maps.atKey_put_same hr.tidy.isMap (by simp [WideAt.IsKeyLit])]; rfl
    · rw [if_neg e, Maps.atKey_put_other (by simpa using e), hr.at_ y]
/-- a store into the map, at the operation. -/
theorem step_putM {w : World} {ops : Array Oper} {o : Oper} {a : Act} {K : Act → World → Prop} {Q : Exit → Act → World → Prop} {F : Prop} (hgd : o.guard = none) (m x v : Operand) (hop : o.op = Op.mapUpdate 80 m x v)
    (b n sz : Nat) (f : Int → Option Nat) (hm : a.eval m = .map (some b)) (h : NM w b n sz f) (hn : n < 4096) (y : Int) (k : Nat) (hx : a.eval x = .int .i64 y) (hv : a.eval v = .int .i64 (k : Nat)) (hy : i64p y) (hk : k < 4096)
    (hK : ∀ w', NM w' b (n + 1) (if (f y).isSome then sz else sz + 1) (upd f y k) → w.grownBy w' (some b) → K (a.put o.dst undef) w') : if Region.wanted o (yielded ops a.tmps) = true then Oper.wp Try.prog o a w K Q else F := by
  obtain ⟨w', hrun, r1, r2⟩ := h.update hn hy k hk
  have hw : Region.wanted o (yielded ops a.tmps) = true := by simp [Region.wanted, hgd]
  rw [if_pos hw]
  unfold Oper.wp
  simp [execOp, hop, hm, hx, hv, hrun, Result.andThen]
  exact hK w' r1 r2
/-- how many entries the map has, at the operation. -/
theorem wpList_lenM {w : World} {ops : Array Oper} {rest : List Oper} {o : Oper} {a : Act} {Q : Exit → Act → World → Prop} (hg : o.guard = none) (m : Operand) (hop : o.op = Op.call { callee := Callee.builtin Builtin.len, args := #[m], argTypes := #[80] })
    (b n sz : Nat) (f : Int → Option Nat) (hm : a.eval m = .map (some b)) (h : NM w b n sz f) (hK : wpList Try.prog ops Q rest (a.put o.dst (.int .i64 (sz : Nat))) w) : wpList Try.prog ops Q (o :: rest) a w := by
  obtain ⟨D, ho, hr⟩ := h
  refine wpList_len_own w hg m 80 hop 3 3 Try.underlying80 (plainElem Try.prog 3) b n D hm ho ?_
  rw [hr.size]; exact hK
/-- the map is ranged over by the block r; what is left is still to come. -/
def NR (W : World) (b r n : Nat) (f : Int → Option Nat) (left : Int → Bool) (cnt : Nat) : Prop := ∃ (D : DataW Value) (sz : Nat) (l : Lit → Bool), W.ranges Try.prog 3 (plainElem Try.prog 3) b r n D l cnt ∧ Rd D sz f ∧ (∀ x, l (.int .i64 x) = left x)
theorem NR.map {W : World} {b r n cnt : Nat} {f : Int → Option Nat} {left : Int → Bool} (h : NR W b r n f left cnt) : ∃ sz, NM W b n sz f := by
  obtain ⟨D, sz, l, h1, h2, _⟩ := h
  exact ⟨sz, D, h1.owns, h2⟩
theorem NR.left_eq {W : World} {b r n cnt : Nat} {f : Int → Option Nat} {left : Int → Bool} (h : NR W b r n f left cnt) : W.rangeLeft b r = cnt := by
  obtain ⟨D, sz, l, h1, _⟩ := h
  exact h1.left_eq
theorem NR.lt {W : World} {b r n cnt : Nat} {f : Int → Option Nat} {left : Int → Bool} (h : NR W b r n f left cnt) : r < W.heap.size ∧ b < W.heap.size ∧ r ≠ b := by
  obtain ⟨D, sz, l, h1, _⟩ := h
  exact ⟨h1.lt, h1.owns.lt, h1.ne⟩
theorem NR.kept {W W' : World} {b r n cnt : Nat} {f : Int → Option Nat} {left : Int → Bool} {row : Option Nat} (h : NR W b r n f left cnt) (hg : W.grownBy W' row) (h1 : some b ≠ row) (h2 : some r ≠ row) : NR W' b r n f left cnt := by
  obtain ⟨D, sz, l, a, b, c⟩ := h
  exact ⟨D, sz, l, a.kept hg h1 h2, b, c⟩
theorem NR.below {W W' : World} {b r n cnt : Nat} {f : Int → Option Nat} {left : Int → Bool} (h : NR W b r n f left cnt) (hb : Below W.heap.size W W') : NR W' b r n f left cnt :=
  h.kept (row := none) ⟨hb.os, hb.tape, hb.output, hb.size, fun k hk _ => hb.block k hk⟩ (by simp) (by simp)
theorem wpList_rangeM {w : World} {ops : Array Oper} {rest : List Oper} {o : Oper} {a : Act} {Q : Exit → Act → World → Prop} (hg : o.guard = none) (m : Operand) (hop : o.op = Op.range 80 m) (b n sz : Nat) (f : Int → Option Nat)
    (hm : a.eval m = .map (some b)) (h : NM w b n sz f)
    (hK : ∀ w' cnt, NR w' b w.heap.size n f (fun x => (f x).isSome) cnt → Below w.heap.size w w' → w'.heap.size = w.heap.size + 1 → wpList Try.prog ops Q rest (a.put o.dst (.pointer (some ⟨w.heap.size, 0, none⟩))) w') :
    wpList Try.prog ops Q (o :: rest) a w := by
  obtain ⟨D, ho, hr⟩ := h
  refine wpList_range_own w hg m 80 hop 3 3 (int_keyed Try.underlying3) Try.underlying80 (plainElem Try.prog 3) b n D hm ho ?_
  intro w' hrg hgr hs
  exact hK w' _ ⟨D, sz, _, hrg, hr, hr.has⟩ ((Below.refl _ _).grown hgr (Nat.le_refl _) (fun k hk => by cases hk)) hs
theorem strike (left : Int → Bool) (l : Lit → Bool) (x : Int) (h : ∀ y, l (.int .i64 y) = left y) (y : Int) : (l (.int .i64 y) && !(Lit.int .i64 y).sameKey (.int .i64 x)) = (left y && !decide (y = x)) := by
  rw [h y]
  by_cases e : y = x
  · subst e
    rw [show (Lit.int .i64 y).sameKey (.int .i64 y) = true from WideAt.sameKey_self (by simp [WideAt.IsKeyLit])]; simp
  · rw [Maps.sameKey_ne (by simpa using e)]; simp [e]
theorem wpList_nextM {w : World} {ops : Array Oper} {rest : List Oper} {o : Oper} {a : Act} {Q : Exit → Act → World → Prop} (hg : o.guard = none) (it : Operand) (hop : o.op = Op.next it false) (b r n : Nat) (f : Int → Option Nat) (left : Int → Bool) (cnt : Nat)
    (hit : a.eval it = .pointer (some ⟨r, 0, none⟩)) (h : NR w b r n f left cnt) (hl : ∀ x, left x = true → (f x).isSome = true)
    (hDone : (∀ x, left x = false) → wpList Try.prog ops Q rest (a.put o.dst (.tuple #[.bool false])) w)
    (hMore : ∀ (x : Int) (k : Nat) (w' : World) (cnt' : Nat), left x = true → f x = some k → NR w' b r n f (fun z => left z && !decide (z = x)) cnt' → cnt' < cnt → w.grownBy w' (some r) → w'.heap.size = w.heap.size →
      (Instr.entry (.pointer (some ⟨r, 0, none⟩))).run Try.prog w' = .ok (.tuple #[.int .i64 x, .int .i64 (k : Nat)]) w' → wpList Try.prog ops Q rest (a.put o.dst (.tuple #[.bool true, .int .i64 x, .int .i64 (k : Nat)])) w') :
    wpList Try.prog ops Q (o :: rest) a w := by
  obtain ⟨D, sz, l, hrg, hr, hll⟩ := h
  refine wpList_next_ranges_ii w hg it hop 3 3 .i64 .i64 (int_keyed Try.underlying3) Try.underlying3 Try.underlying3 b r n D l cnt hit hrg (fun _ h0 => hDone fun x => by rw [← hll]; exact h0 _) ?_
  intro x c w' cnt' hwx hwc hlx hat hrg' hlt hgr hsz hen
  rw [hll] at hlx
  obtain ⟨k, hk⟩ := Option.isSome_iff_exists.1 (hl x hlx)
  have e := hr.at_ x
  rw [hat, hk] at e
  injection e with e
  injection e with _ e
  subst e
  exact hMore x k w' cnt' hlx hk ⟨D, sz, _, hrg', hr, strike left l x hll⟩ hlt hgr hsz hen
end Go.Proofs.Ytcfdndppkpjleaa.Hi
