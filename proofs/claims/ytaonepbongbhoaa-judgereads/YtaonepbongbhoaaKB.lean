/-
  Rows in memory whose elements have n cells each, whatever they stand for: read, cut, appended to, written, made, copied over.
  Regions that draw their order and end with one store, behind which nothing is held: all that only reads may be taken first, by what holds till then. One operation that is the same in every world may come at any time.
  What AnyZ has, for regions whose last operation waits for others by way of others: while number i has not come up none of D has, if each of D waits for i, or for one of D.
  Maps from whole numbers to the numbers of events, as functions: looked up, written, ranged over.
  Rows of steps in memory.
  Contracts of the functions that make rows of steps out of others: the statements' two, the library's Clone; of Save, and of value's Right; the document's comparison.
-/
import Derived.Test.YtaonepbongbhoaaProg
import Derived.WalkKit
import Derived.WalkMore
import Derived.WalkLawsBesides
import Derived.WalkSmall
import Derived.LoopTactic
import Derived.Lib.Hide
import Derived.Below
import Derived.OwnWalk
import Derived.Maps.AppendAt
import Derived.Laws.MakeOwn
import Derived.Laws.OwnMore
import Derived.Laws.Cover3
import Derived.Laws.CopyOwn
import Derived.Deep.RegionHeld3
import Derived.Test.YtaonepbongbhoaaKA
import Derived.Maps.OwnIn
import Derived.Maps.OwnSet
import Derived.Maps.Views
import Derived.Maps.RangeWalk
import Derived.Deep.WholeRow
import Derived.Deep.QuietTactic
import Derived.BigQuiet
import Derived.Laws.StructEq
namespace Go.Proofs.Ytaonepbongbhoaa.Rn
open Go.RowKit
/-- how an element lies: so many cells. -/
structure Enc (α : Type) where
  n : Nat
  pos : 0 < n
  cells : α → List Value
  len : ∀ x, (cells x).length = n
  one : ∀ x, ∀ u ∈ cells x, u.oneCell' = true
theorem cell_lt {w : World} {p : Addr} {v : Value} (h : w.cell? p = some v) : p.block < w.heap.size := World.block_lt_of_cell? w p h
theorem add_block (ad : Addr) (j : Nat) : (ad.add j).block = ad.block := by unfold Addr.add; split <;> rfl
theorem add_lit (ad : Addr) (j i : Nat) : ad.add (j + (i + 1)) = ⟨(ad.add j).block, (ad.add j).off + (i + 1), none⟩ := by
  rw [← Addr.add_add, Addr.add_succ' _ i]
theorem below_new (w : World) (o : Obj) : Below w.heap.size w (w.alloc o) := (Below.refl _ _).alloc (Nat.le_refl _) _
theorem size_new (w : World) (o : Obj) : (w.alloc o).heap.size = w.heap.size + 1 := by simp
/-- a row that was made behind a point. -/
def Fr (n : Nat) (T : Option Addr) : Prop := ∀ ad, T = some ad → n ≤ ad.block
theorem Fr.mono {n m : Nat} {T : Option Addr} (h : Fr n T) (hm : m ≤ n) : Fr m T := fun ad e => Nat.le_trans hm (h ad e)
section
variable {α : Type} {E : Enc α}
def flat (E : Enc α) (L : List α) : List Value := L.flatMap E.cells
theorem flat_append (L M : List α) : flat E (L ++ M) = flat E L ++ flat E M := by simp [flat]
theorem flat_cons (x : α) (L : List α) : flat E (x :: L) = E.cells x ++ flat E L := by simp [flat]
theorem flat_one1 (x : α) : flat E [x] = E.cells x := by simp [flat]
theorem flat_len (L : List α) : (flat E L).length = L.length * E.n := by
  induction L with
  | nil => simp [flat]
  | cons v L ih => rw [flat_cons, List.length_append, E.len, ih, List.length_cons, Nat.succ_mul, Nat.add_comm]
theorem flat_at {L : List α} {j : Nat} {v : α} (h : L[j]? = some v) (i : Nat) (hi : i < E.n) : (flat E L)[j * E.n + i]? = (E.cells v)[i]? := by
  obtain ⟨hl, rfl⟩ := List.getElem?_eq_some_iff.1 h
  have e : L = L.take j ++ (L[j] :: L.drop (j + 1)) := by simp
  have hj : (L.take j).length = j := by simp; omega
  have e2 : flat E L = flat E (L.take j) ++ (E.cells L[j] ++ flat E (L.drop (j + 1))) := by
    conv => lhs; rw [e]
    rw [flat_append, flat_cons]
  rw [e2, List.getElem?_append_right (by rw [flat_len, hj]; omega), flat_len, hj, Nat.add_sub_cancel_left, List.getElem?_append_left (by rw [E.len]; exact hi)]
theorem flat_one (L : List α) : ∀ u ∈ flat E L, u.oneCell' = true := by
  intro u hu
  obtain ⟨v, _, hv⟩ := List.mem_flatMap.1 hu
  exact E.one v u hv
theorem flat_set {L : List α} {j : Nat} {v v' : α} {i : Nat} {u : Value} (h : L[j]? = some v) (hi : i < E.n) (hc : (E.cells v).set i u = E.cells v') : (flat E L).set (j * E.n + i) u = flat E (L.set j v') := by
  obtain ⟨hl, rfl⟩ := List.getElem?_eq_some_iff.1 h
  have e : L = L.take j ++ (L[j] :: L.drop (j + 1)) := by simp
  have hj : (L.take j).length = j := by simp; omega
  have e2 : flat E L = flat E (L.take j) ++ (E.cells L[j] ++ flat E (L.drop (j + 1))) := by
    conv => lhs; rw [e]
    rw [flat_append, flat_cons]
  rw [e2, List.set_append_right _ _ (by rw [flat_len, hj]; omega), flat_len, hj, Nat.add_sub_cancel_left, List.set_append_left _ _ (by rw [E.len]; exact hi), hc]
  rw [List.set_eq_take_append_cons_drop, if_pos hl, flat_append, flat_cons]
/-- a slice reads as these elements. -/
structure At (E : Enc α) (w : World) (A : Option Addr) (L : List α) : Prop where
  cell : 0 < L.length → ∃ ad, A = some ad ∧ ∀ j u, (flat E L)[j]? = some u → w.cell? (ad.add j) = some u
theorem At.below {w w' : World} {A : Option Addr} {L : List α} {B : Nat} (h : At E w A L) (hb : Below B w w') (hB : w.heap.size ≤ B) : At E w' A L :=
  ⟨fun hl => by
    obtain ⟨ad, e, hc⟩ := h.cell hl
    exact ⟨ad, e, fun j u hu => by
      have := hc j u hu
      exact (hb.cell (Nat.lt_of_lt_of_le (cell_lt this) hB)).trans this⟩⟩
theorem At.alloc {w : World} {A : Option Addr} {L : List α} (h : At E w A L) (o : Obj) : At E (w.alloc o) A L := h.below (below_new w o) (Nat.le_refl _)
theorem At.nil (w : World) (A : Option Addr) : At E w A [] := ⟨fun h => by simp at h⟩
theorem At.nil_ {w : World} {L : List α} (h : At E w none L) : L = [] := by
  rcases L with _ | ⟨x, L⟩
  · rfl
  · obtain ⟨ad, h, _⟩ := h.cell (by simp)
    cases h
theorem At.get {w : World} {A : Option Addr} {L : List α} (h : At E w A L) {j : Nat} {v : α} (hv : L[j]? = some v) : ∃ ad, A = some ad ∧ ∀ i u, (E.cells v)[i]? = some u → w.cell? (ad.add (j * E.n + i)) = some u := by
  obtain ⟨ad, e, hc⟩ := h.cell (by have := (List.getElem?_eq_some_iff.1 hv).1; omega)
  exact ⟨ad, e, fun i u hu => hc _ _ ((flat_at hv i (by rw [← E.len v]; exact (List.getElem?_eq_some_iff.1 hu).1)).trans hu)⟩
theorem At.take {w : World} {A : Option Addr} {L : List α} (h : At E w A L) (x : Nat) : At E w A (L.take x) :=
  ⟨fun hl => by
    obtain ⟨ad, e, hc⟩ := h.cell (by simp at hl; omega)
    refine ⟨ad, e, fun j u hu => hc j u ?_⟩
    have e2 : flat E L = flat E (L.take x) ++ flat E (L.drop x) := by rw [← flat_append, List.take_append_drop]
    rw [e2, List.getElem?_append_left (List.getElem?_eq_some_iff.1 hu).1]
    exact hu⟩
theorem At.drop {w : World} {ad : Addr} {L : List α} (h : At E w (some ad) L) (x : Nat) : At E w (some (ad.add (x * E.n))) (L.drop x) :=
  ⟨fun hl => by
    obtain ⟨ad', e, hc⟩ := h.cell (by simp at hl; omega)
    have e := Option.some.inj e
    subst e
    refine ⟨_, rfl, fun j u hu => ?_⟩
    rw [Addr.add_add]
    refine hc _ u ?_
    have e2 : flat E L = flat E (L.take x) ++ flat E (L.drop x) := by rw [← flat_append, List.take_append_drop]
    have hx : (L.take x).length = x := by simp at hl ⊢; omega
    rw [e2, List.getElem?_append_right (by rw [flat_len, hx]; omega), flat_len, hx, Nat.add_sub_cancel_left]
    exact hu⟩
/-- one element in a block of its own. -/
theorem At.new (w : World) (v : α) (c : Array Value) (hc : c.toList = E.cells v) (t : TypeId) {g : Nat} (hg : w.heap.size = g) : At E (w.alloc (.cells c t)) (some ⟨g, 0, none⟩) [v] :=
  ⟨fun _ => ⟨_, rfl, fun j u hu => by
    subst hg
    have hadd : (⟨w.heap.size, 0, none⟩ : Addr).add j = ⟨w.heap.size, j, none⟩ := by unfold Addr.add; split <;> simp_all
    rw [hadd, cell_of_row _ w.heap.size j c t (0, 0) (heap_alloc_new w _)]
    rw [flat_one1, ← hc] at hu
    simpa using hu⟩⟩
/-- a row of the call's own reads as these elements. -/
def Own (E : Enc α) (w : World) (base : Nat) (e : TypeId) (v : Value) (L : List α) : Prop := w.ownsRow base e E.n v L.length (flat E L)
theorem Own.slice {w : World} {base : Nat} {e : TypeId} {v : Value} {L : List α} (h : Own E w base e v L) : ∃ A c, v = .slice A L.length c ∧ L.length ≤ c ∧ c ≤ maxLen ∧ At E w A L ∧ Fr base A := by
  rcases h.2 with ⟨rfl, h0⟩ | ⟨g, cap, cur, rfl, hb, hg, hn, hm, hs, ht⟩
  · exact ⟨none, 0, by rw [h0], by omega, by unfold maxLen; omega, ⟨fun hl => by omega⟩, fun ad e => by cases e⟩
  · exact ⟨_, cap, rfl, hn, hm, ⟨fun _ => ⟨_, rfl, World.ownsRow.cells h rfl⟩⟩, fun ad e => by cases e; exact hb⟩
theorem Own.nil (w : World) (base : Nat) (e : TypeId) : Own E w base e (.slice none 0 0) [] := by
  have := World.ownsRow_nil w base e E.n
  exact this
theorem Own.alloc {w : World} {base : Nat} {e : TypeId} {v : Value} {L : List α} (h : Own E w base e v L) (o : Obj) : Own E (w.alloc o) base e v L := World.ownsRow.alloc h o
theorem Own.below {w w' : World} {base : Nat} {e : TypeId} {v : Value} {L : List α} {B : Nat} (h : Own E w base e v L) (hb : Below B w w') (hB : w.heap.size ≤ B) : Own E w' base e v L :=
  World.ownsRow.kept (row := none) h ⟨hb.os, hb.tape, hb.output, hb.size, fun k hk _ => hb.block k (by omega)⟩ (by cases hv : v.ownBlock <;> simp)
theorem Own.mono {w : World} {base B : Nat} {e : TypeId} {v : Value} {L : List α} (h : Own E w base e v L) (hB : B ≤ base) : Own E w B e v L := by
  refine ⟨h.1, ?_⟩
  rcases h.2 with hn | ⟨g, cap, cur, e1, hb, rest⟩
  · exact .inl hn
  · exact .inr ⟨g, cap, cur, e1, by omega, rest⟩
theorem Own.empty (w : World) (e : TypeId) {g : Nat} (hg : w.heap.size = g) {base : Nat} (hb : base ≤ w.heap.size) : Own E (w.alloc (.cells #[] e)) base e (.slice (some ⟨g, 0, none⟩) 0 0) [] := by
  subst hg
  exact World.ownsRow_lit w #[] 0 hb (by unfold maxLen; omega) (by simp)
theorem Own.lt {w : World} {base g n cap : Nat} {e : TypeId} {L : List α} (h : Own E w base e (.slice (some ⟨g, 0, none⟩) n cap) L) : base ≤ g ∧ g < w.heap.size := World.ownsRow.lt h g rfl
theorem Own.ge {w : World} {base g n cap : Nat} {e : TypeId} {L : List α} (h : Own E w base e (.slice (some ⟨g, 0, none⟩) n cap) L) : L.length = n := by
  rcases h.2 with ⟨e, _⟩ | ⟨g, c, cur, e, _⟩
  · injection e with e; cases e
  · exact (Value.slice.inj e).2.1.symm
theorem Own.get {w : World} {base g n cap : Nat} {e : TypeId} {L : List α} (h : Own E w base e (.slice (some ⟨g, 0, none⟩) n cap) L) {j : Nat} {v : α} (hv : L[j]? = some v) (i : Nat) (hi : i < E.n) : w.cell? ⟨g, j * E.n + i, none⟩ = (E.cells v)[i]? := by
  obtain rfl := h.ge
  have hj : j < L.length := (List.getElem?_eq_some_iff.1 hv).1
  have h1 : j * E.n + E.n ≤ L.length * E.n := by rw [← Nat.succ_mul]; exact Nat.mul_le_mul_right _ hj
  rw [World.ownsRow.cellAt h _ (by omega), flat_at hv i hi]
theorem Own.free {w : World} {base g n cap : Nat} {e : TypeId} {L : List α} (h : Own E w base e (.slice (some ⟨g, 0, none⟩) n cap) L) (i : Nat) : w.frozen? ⟨g, i, none⟩ = false := by
  obtain rfl := h.ge
  exact World.ownsRow.frozenAt h i
theorem Own.put {w : World} {base g n cap : Nat} {e : TypeId} {L : List α} (h : Own E w base e (.slice (some ⟨g, 0, none⟩) n cap) L) {j : Nat} {v v' : α} (hv : L[j]? = some v) (i : Nat) (hi : i < E.n) (u : Value) (hc : (E.cells v).set i u = E.cells v') :
    Own E (w.setCell ⟨g, j * E.n + i, none⟩ u) base e (.slice (some ⟨g, 0, none⟩) n cap) (L.set j v') := by
  obtain rfl := h.ge
  unfold Own at h ⊢
  rw [List.length_set, ← flat_set hv hi hc]
  exact (World.ownsRow.stored h _ u).1
/-- a slice's type and its elements'. -/
structure VT (E : Enc α) (t e : TypeId) : Prop where
  und : Try.prog.underlying t = some (.slice e)
  inf : ∃ i z, Try.prog.info? e = some i ∧ i.zero = some z ∧ i.size = E.n ∧ i.bytes ≤ 64 ∧ z.cells.size = E.n
theorem run_append (E : Enc α) {t e : TypeId} (T : VT E t e) (ty : TypeId) {W : World} {base : Nat} {v : Value} {L : List α} (hown : Own E W base e v L) {A : Option Addr} (c : Nat) {M : List α} (hM : At E W A M) (hlen : L.length + M.length ≤ 100000) (hbase : base ≤ W.heap.size) :
    ∃ v' w', (Builtin.append_ #[t, t] ty #[v, .slice A M.length c]).run Try.prog W = .ok v' w' ∧ Own E w' base e v' (L ++ M) ∧ W.grownBy w' v.ownBlock := by
  obtain ⟨i, z, hi, hz, hs, hb, hzs⟩ := T.inf
  rcases A with _ | ad
  · obtain rfl := hM.nil_
    have hr : (Builtin.append_ #[t, t] ty #[v, .slice none 0 c]).run Try.prog W = .ok v W := by
      rcases hown.2 with ⟨rfl, h0⟩ | ⟨g, cap, cur, rfl, _, _, hnc, _⟩
      · simp [Builtin.append_, run_underlying T.und, sizeOf, typeInfo, hi, Builtin.lenOf, Builtin.firstCells]
      · simp [Builtin.append_, run_underlying T.und, sizeOf, typeInfo, hi, Builtin.lenOf, Builtin.firstCells, hnc, storeCells]
    exact ⟨v, W, hr, by simpa using hown, ⟨rfl, rfl, rfl, Nat.le_refl _, fun _ _ _ => rfl⟩⟩
  · have hc : ∀ j u, (flat E M)[j]? = some u → W.cell? (ad.add j) = some u := by
      intro j u hu
      rcases M with _ | ⟨x, M⟩
      · simp [flat] at hu
      · obtain ⟨ad', h, hc⟩ := hM.cell (by simp)
        have h := Option.some.inj h
        subst h
        exact hc j u hu
    have hby : (L.length + M.length) * i.bytes ≤ 140737488355328 := by
      have := Nat.mul_le_mul hlen hb
      omega
    obtain ⟨v', w', hr, h2, h3, _⟩ := run_append_own (P := Try.prog) W base t ty e i z E.n i.bytes T.und hi hz hs rfl hzs E.pos v L.length (flat E L) hown ad M.length c (flat E M) (flat_len M) hc (flat_one M) (by unfold maxLen; omega) hby hbase
    refine ⟨v', w', hr, ?_, h3⟩
    unfold Own
    rw [List.length_append, flat_append]
    exact h2
theorem append_row (E : Enc α) {t e : TypeId} (T : VT E t e) {ops : Array Oper} {rest : List Oper} {o : Oper} {a : Act} {Q : Exit → Act → World → Prop} (hgd : o.guard = none) (s x : Operand)
    (ho : o.op = .call { callee := .builtin .append, args := #[s, x], argTypes := #[t, t] }) {W : World} {base : Nat} {v : Value} {L : List α} (hs : a.eval s = v) (hown : Own E W base e v L)
    (A : Option Addr) (c : Nat) (M : List α) {m : Nat} (hm : M.length = m) (hx : a.eval x = .slice A m c) (hM : At E W A M) (hlen : L.length + M.length ≤ 100000) (hbase : base ≤ W.heap.size)
    (h : ∀ v' w', Own E w' base e v' (L ++ M) → Below base W w' → W.heap.size ≤ w'.heap.size → wpList Try.prog ops Q rest (a.put o.dst v') w') : wpList Try.prog ops Q (o :: rest) a W := by
  subst hm
  obtain ⟨v', w', hr, h2, h3⟩ := run_append E T o.type hown c hM hlen hbase
  refine wpList_plain hgd fun _ hK => ?_
  unfold Oper.wp execOp
  simp only [ho, resolve, invoke, builtin, Sem.run_bind, Sem.run_pure, Result.andThen_ok, List.map_toArray, List.map_cons, List.map_nil, hs, hx, hr]
  exact hK _ _ (h v' w' h2 ((Below.refl _ _).grown h3 hbase (fun k hk => (World.ownsRow.lt hown k hk).1)) h3.size)
theorem eq_nil {t e : TypeId} (T : VT E t e) (A : Option Addr) (n c : Nat) (W : World) : (binOp .eql t (.slice A n c) (.slice none 0 0)).run Try.prog W = .ok (.bool A.isNone) W := by
  simp [binOp, run_equal_slice_nil W t e A n c T.und]
theorem step_take {l : List α} {k : Nat} {z : α} (h : l[k]? = some z) : l.take (k + 1) = l.take k ++ [z] := by
  obtain ⟨hl, rfl⟩ := List.getElem?_eq_some_iff.1 h
  exact List.take_succ_eq_append_getElem hl
end
end Go.Proofs.Ytaonepbongbhoaa.Rn
namespace Go.Proofs.Ytaonepbongbhoaa.Az
open Go.RowKit
theorem put_laws : (∀ (a : Act) (d : Nat) (v : Value), a.put (some d) v = { a with tmps := a.tmps.setIfInBounds d v }) ∧ (∀ (l : List Value) (i : Nat) (v : Value), l.toArray.setIfInBounds i v = (l.set i v).toArray) ∧
    (∀ (x y : Value) (l : List Value), (x :: l).set 0 y = y :: l) ∧ (∀ (x y : Value) (l : List Value) (n : Nat), (x :: l).set (n + 1) y = x :: l.set n y) :=
  ⟨fun _ _ _ => rfl, fun _ _ _ => by simp, fun _ _ _ => rfl, fun _ _ _ _ => rfl⟩
section
variable {P : Program} {ops : Array Oper} {Q : Exit → Go.Act → World → Prop} {md : Region.Mode} {S : World → Prop} {z e : Nat}
/-- what is asked behind number j: S ahead of number z; of number e that S stays. -/
structure Held (S : World → Prop) (z e j : Nat) (w w' : World) : Prop where
  strict : j < z → j ≠ e → S w'
  stays : j = e → S w → S w'
/-- whatever order is picked, what is asked holds behind each operation. -/
def anyZ (P : Program) (md : Region.Mode) (ops : Array Oper) (Q : Exit → Go.Act → World → Prop) (S : World → Prop) (z e : Nat) : Nat → Array Bool → Go.Act → World → Prop
  | 0, listed, a, w => Region.ready md ops listed = [] ∧ Q .normal a w
  | fuel + 1, listed, a, w => (Region.ready md ops listed = [] → Q .normal a w) ∧ ∀ i ∈ Region.ready md ops listed, wpOp P ops Q i (fun a' w' => Held S z e i w w' ∧ anyZ P md ops Q S z e fuel (listed.setIfInBounds i true) a' w') a w
theorem anyZ_any : ∀ (fuel : Nat) (listed : Array Bool) (a : Go.Act) (w : World), anyZ P md ops Q S z e fuel listed a w → wpAny P md ops Q fuel listed a w
  | 0, _, _, _, h => h
  | fuel + 1, _, _, _, h => ⟨h.1, fun i hi => wpOp_mono (fun a' w' k => anyZ_any fuel _ a' w' k.2) (h.2 i hi)⟩
theorem set_of (listed : Array Bool) {j k : Nat} (h : (listed.setIfInBounds j true).getD k true = false) : listed.getD k true = false := by
  by_cases e : j = k
  · subst e
    by_cases hl : j < listed.size
    · simp [hl] at h
    · simp [hl] at h
  · rwa [getD_set_ne true e] at h
/-- while i has not come up nothing that waits for it is ready. -/
theorem ready_wait {i : Nat} {listed : Array Bool} {j : Nat} {oj : Oper} (hr : i ∈ Region.ready md ops listed) (hj : j ∈ Region.ready md ops listed) (hoj : ops[j]? = some oj) : ∀ f ∈ oj.after, Region.binds md f = true → f.on ≠ i := by
  intro f he hb heq
  obtain ⟨_, oj', hoj', hall⟩ := mem_ready.1 hj
  obtain rfl : oj = oj' := Option.some.inj (hoj.symm.trans hoj')
  have h1 := hall f he hb
  have h0 := (mem_ready.1 hr).1
  rw [heq] at h1
  by_cases hl : i < listed.size
  · simp [hl] at h0 h1; rw [h0] at h1; cases h1
  · simp [hl] at h1
/-- number i may be taken first, if all from z on wait for it, or for one from z on. -/
theorem anyZ_first {i : Nat} {oi : Oper} {v : Value} (hi : ops[i]? = some oi) (hsel : ∀ (j : Nat) (o : Oper) cs b, ops[j]? = some o → o.op ≠ .select cs b)
    (hQ : ∀ c a w, Q (.panic c) (a.put oi.dst v) w → Q (.panic c) a w) (hz : ∀ j oz, z ≤ j → j ≠ e → ops[j]? = some oz → ∃ f ∈ oz.after, Region.binds md f = true ∧ (f.on = i ∨ (z ≤ f.on ∧ f.on ≠ e ∧ f.on < ops.size))) :
    ∀ (fuel : Nat) (listed : Array Bool) (a : Go.Act) (w : World),
      (∀ j oj, ops[j]? = some oj → j ≠ i → listed.getD j true = false → (∀ f ∈ oj.after, Region.binds md f = true → f.on ≠ i) → oi.apart ops oj = true) → (∀ j, z ≤ j → j ≠ e → j < ops.size → listed.getD j true = false) →
      i ∈ Region.ready md ops listed → YieldsIf P ops S oi v a → S w →
      anyZ P md ops Q S z e fuel (listed.setIfInBounds i true) (a.put oi.dst v) w → anyZ P md ops Q S z e (fuel + 1) listed a w := by
  intro fuel
  induction fuel with
  | zero =>
    intro listed a w _ _ hr hy hS H
    refine ⟨fun h => (by rw [h] at hr; cases hr), fun j hj => ?_⟩
    by_cases he : j = i
    · subst he; exact hy.wpOp hi hS ⟨⟨fun _ _ => hS, fun _ h => h⟩, H⟩
    · have := ready_mono hj he
      rw [H.1] at this; cases this
  | succ fuel ih =>
    intro listed a w hfree hun' hr hy hS H
    refine ⟨fun h => (by rw [h] at hr; cases hr), fun j hj => ?_⟩
    by_cases he : j = i
    · subst he; exact hy.wpOp hi hS ⟨⟨fun _ _ => hS, fun _ h => h⟩, H⟩
    · obtain ⟨hun, oj, hoj, hall⟩ := mem_ready.1 hj
      have hno := ready_wait hr hj hoj
      have hjz : j < z ∨ j = e := by
        rcases Nat.lt_or_ge j z with h | h
        · exact .inl h
        · by_cases hje : j = e
          · exact .inr hje
          · obtain ⟨f, hf, hfb, hfo⟩ := hz j oj h hje hoj
            rcases hfo with hfo | ⟨h1, h2, h3⟩
            · exact absurd hfo (hno f hf hfb)
            · have e1 := hall f hf hfb
              have e2 := hun' f.on h1 h2 h3
              by_cases hl : f.on < listed.size
              · simp [hl] at e1 e2; rw [e1] at e2; cases e2
              · simp [hl] at e1
      have h2 := wpOp_putIf hoj (hfree j oj hoj he hun hno) (fun cs b => hsel i oi cs b hi) (fun cs b => hsel j oj cs b hoj) hQ hy (H.2 j (ready_mono hj he))
      refine wpOp_mono (fun a' w' h3 => ?_) h2
      have hS' : S w' := by
        by_cases hje : j = e
        · exact h3.2.1.stays hje hS
        · rcases hjz with h | h
          · exact h3.2.1.strict h hje
          · exact absurd h hje
      refine ⟨h3.2.1, ih (listed.setIfInBounds j true) a' w' (fun k ok hk hki hu hn => hfree k ok hk hki (set_of listed hu) hn) (fun k h1 h2 h3 => ?_) (ready_mono hr (Ne.symm he)) h3.1 hS' ?_⟩
      · rw [getD_set_ne true (by rcases hjz with h | h <;> omega)]; exact hun' k h1 h2 h3
      · rw [Array.setIfInBounds_comm _ _ he]
        exact h3.2.2
/-- number e may be taken first, if it is the same in every world. -/
theorem anyZ_pure {oe : Oper} {v : Value} (hi : ops[e]? = some oe) (hsel : ∀ (j : Nat) (o : Oper) cs b, ops[j]? = some o → o.op ≠ .select cs b)
    (hQ : ∀ c a w, Q (.panic c) (a.put oe.dst v) w → Q (.panic c) a w) :
    ∀ (fuel : Nat) (listed : Array Bool) (a : Go.Act) (w : World),
      (∀ j oj, ops[j]? = some oj → j ≠ e → listed.getD j true = false → (∀ f ∈ oj.after, Region.binds md f = true → f.on ≠ e) → oe.apart ops oj = true) →
      e ∈ Region.ready md ops listed → YieldsIf P ops (fun _ => True) oe v a →
      anyZ P md ops Q S z e fuel (listed.setIfInBounds e true) (a.put oe.dst v) w → anyZ P md ops Q S z e (fuel + 1) listed a w := by
  intro fuel
  induction fuel with
  | zero =>
    intro listed a w _ hr hy H
    refine ⟨fun h => (by rw [h] at hr; cases hr), fun j hj => ?_⟩
    by_cases he : j = e
    · subst he; exact hy.wpOp hi trivial ⟨⟨fun _ h => absurd rfl h, fun _ h => h⟩, H⟩
    · have := ready_mono hj he
      rw [H.1] at this; cases this
  | succ fuel ih =>
    intro listed a w hfree hr hy H
    refine ⟨fun h => (by rw [h] at hr; cases hr), fun j hj => ?_⟩
    by_cases he : j = e
    · subst he; exact hy.wpOp hi trivial ⟨⟨fun _ h => absurd rfl h, fun _ h => h⟩, H⟩
    · obtain ⟨hun, oj, hoj, _⟩ := mem_ready.1 hj
      have h2 := wpOp_putIf hoj (hfree j oj hoj he hun (ready_wait hr hj hoj)) (fun cs b => hsel e oe cs b hi) (fun cs b => hsel j oj cs b hoj) hQ hy (H.2 j (ready_mono hj he))
      refine wpOp_mono (fun a' w' h3 => ⟨h3.2.1, ih (listed.setIfInBounds j true) a' w' (fun k ok hk hki hu hn => hfree k ok hk hki (set_of listed hu) hn) (ready_mono hr (Ne.symm he)) h3.1 ?_⟩) h2
      rw [Array.setIfInBounds_comm _ _ he]
      exact h3.2.2
def waits (md : Region.Mode) (ops : Array Oper) (listed : Array Bool) (z e i : Nat) : Bool :=
  (List.range ops.size).all fun j => decide (j < z) || j == e || (!(listed.getD j true) && (ops[j]?.map fun oz => oz.after.any fun f => Region.binds md f && (f.on == i || (decide (z ≤ f.on) && !(f.on == e) && decide (f.on < ops.size)))).getD true)
theorem waits_spec {listed : Array Bool} {i : Nat} (h : waits md ops listed z e i = true) (j : Nat) (oz : Oper) (hj : z ≤ j) (hje : j ≠ e) (ho : ops[j]? = some oz) : ∃ f ∈ oz.after, Region.binds md f = true ∧ (f.on = i ∨ (z ≤ f.on ∧ f.on ≠ e ∧ f.on < ops.size)) := by
  unfold waits at h
  have := List.all_eq_true.1 h j (by simpa using (Array.getElem?_eq_some_iff.1 ho).1)
  rw [decide_eq_false (by omega), ho, show (j == e) = false by simpa using hje] at this
  simp only [Option.map_some, Option.getD_some, Bool.false_or, Bool.and_eq_true, Array.any_eq_true] at this
  obtain ⟨_, k, hk, h⟩ := this
  refine ⟨oz.after[k], Array.getElem_mem hk, h.1, ?_⟩
  have h2 := h.2
  simp only [Bool.or_eq_true, Bool.and_eq_true, decide_eq_true_eq, beq_iff_eq, Bool.not_eq_true', beq_eq_false_iff_ne] at h2
  rcases h2 with h2 | h2
  · exact .inl h2
  · exact .inr ⟨h2.1.1, h2.1.2, h2.2⟩
theorem waits_none {listed : Array Bool} {i : Nat} (h : waits md ops listed z e i = true) (j : Nat) (hj : z ≤ j) (hje : j ≠ e) (hl : j < ops.size) : listed.getD j true = false := by
  unfold waits at h
  have := List.all_eq_true.1 h j (by simpa using hl)
  rw [decide_eq_false (by omega), show (j == e) = false by simpa using hje] at this
  simp only [Bool.false_or, Bool.and_eq_true] at this
  simpa using this.1
theorem take_z (i d : Nat) (v : Value) {oi : Oper} {fuel : Nat} {listed : Array Bool} {a : Go.Act} {w : World} (hi : ops[i]? = some oi) (hd : oi.dst = some d)
    (hs : Region.noSelect ops = true) (hf : Region.free md ops listed i = true) (hr : (Region.ready md ops listed).contains i = true) (hz : waits md ops listed z e i = true)
    (hQ : ∀ c a w, Q (.panic c) (a.put oi.dst v) w → Q (.panic c) a w) (hy : YieldsIf P ops S oi v a) (hS : S w)
    (h : anyZ P md ops Q S z e fuel (listed.setIfInBounds i true) (a.put (some d) v) w) : anyZ P md ops Q S z e (fuel + 1) listed a w :=
  anyZ_first hi (Region.noSelect_spec hs) hQ (waits_spec hz) fuel listed a w (Region.free_spec hi hf) (waits_none hz) (by simpa using hr) hy hS (by rw [hd]; exact h)
theorem take_e (d : Nat) (v : Value) {oi : Oper} {fuel : Nat} {listed : Array Bool} {a : Go.Act} {w : World} (hi : ops[e]? = some oi) (hd : oi.dst = some d)
    (hs : Region.noSelect ops = true) (hf : Region.free md ops listed e = true) (hr : (Region.ready md ops listed).contains e = true)
    (hQ : ∀ c a w, Q (.panic c) (a.put oi.dst v) w → Q (.panic c) a w) (hy : YieldsIf P ops (fun _ => True) oi v a)
    (h : anyZ P md ops Q S z e fuel (listed.setIfInBounds e true) (a.put (some d) v) w) : anyZ P md ops Q S z e (fuel + 1) listed a w :=
  anyZ_pure hi (Region.noSelect_spec hs) hQ fuel listed a w (Region.free_spec hi hf) (by simpa using hr) hy (by rw [hd]; exact h)
def AllZ (P : Program) (md : Region.Mode) (ops : Array Oper) (Q : Exit → Go.Act → World → Prop) (S : World → Prop) (z e fuel : Nat) (listed : Array Bool) (a : Go.Act) (w : World) (rs : List Nat) : Prop :=
  ∀ i ∈ rs, wpOp P ops Q i (fun a' w' => Held S z e i w w' ∧ anyZ P md ops Q S z e fuel (listed.setIfInBounds i true) a' w') a w
theorem AllZ.nil {fuel : Nat} {listed : Array Bool} {a : Go.Act} {w : World} : AllZ P md ops Q S z e fuel listed a w [] := fun _ h => by cases h
theorem AllZ.cons {fuel : Nat} {listed : Array Bool} {a : Go.Act} {w : World} {i : Nat} {o : Oper} {rs : List Nat} (ho : ops[i]? = some o)
    (h : ∀ K' : Go.Act → World → Prop, Shut (∀ a w, S w → (S w → anyZ P md ops Q S z e fuel (listed.setIfInBounds i true) a w) → K' a w) → if Region.wanted o (yielded ops a.tmps) = true then Oper.wp P o a w K' Q else K' (a.put o.dst undef) w)
    (hs : AllZ P md ops Q S z e fuel listed a w rs) : AllZ P md ops Q S z e fuel listed a w (i :: rs) := fun j hj => by
  rcases List.mem_cons.1 hj with rfl | hj
  · exact wpOp_step ho (fun K' hK => h K' (fun a w hS hW => hK a w ⟨⟨fun _ _ => hS, fun _ _ => hS⟩, hW hS⟩))
  · exact hs j hj
/-- one from z on: nothing is asked behind it. -/
theorem AllZ.last {fuel : Nat} {listed : Array Bool} {a : Go.Act} {w : World} {i : Nat} {o : Oper} (hz : (decide (z ≤ i) && !(i == e)) = true) (ho : ops[i]? = some o)
    (h : ∀ K' : Go.Act → World → Prop, Shut (∀ a w, anyZ P md ops Q S z e fuel (listed.setIfInBounds i true) a w → K' a w) → if Region.wanted o (yielded ops a.tmps) = true then Oper.wp P o a w K' Q else K' (a.put o.dst undef) w) :
    AllZ P md ops Q S z e fuel listed a w [i] := fun j hj => by
  simp only [Bool.and_eq_true, decide_eq_true_eq, Bool.not_eq_true', beq_eq_false_iff_ne] at hz
  rcases List.mem_cons.1 hj with rfl | hj
  · exact wpOp_step ho (fun K' hK => h K' (fun a w hW => hK a w ⟨⟨fun h => by omega, fun h => absurd h hz.2⟩, hW⟩))
  · cases hj
theorem anyZ_ready {rs : List Nat} {fuel : Nat} {listed : Array Bool} {a : Go.Act} {w : World} (hr : Region.ready md ops listed = rs) (hne : rs ≠ []) (h : AllZ P md ops Q S z e fuel listed a w rs) : anyZ P md ops Q S z e (fuel + 1) listed a w :=
  ⟨fun h0 => absurd (hr ▸ h0) hne, hr ▸ h⟩
theorem anyZ_done {listed : Array Bool} {a : Go.Act} {w : World} (hr : Region.ready md ops listed = []) (h : Q .normal a w) : ∀ fuel, anyZ P md ops Q S z e fuel listed a w
  | 0 => ⟨hr, h⟩
  | _ + 1 => ⟨fun _ => h, by rw [hr]; simp⟩
theorem region_z {id : Nat} {a : Go.Act} {w : World} (n : Nat) (S : World → Prop) (z e : Nat) (hn : ops.size = n) (hm : P.follows .mixedOrders = true) (hS : S w.drew)
    (h : S w.drew → anyZ P .any ops Q S z e n (Array.replicate n false) a w.drew) : (Code.region id ops true).wp P Q a w := by
  subst hn
  exact wp_region_any hm (anyZ_any _ _ _ _ (h hS))
end
end Go.Proofs.Ytaonepbongbhoaa.Az
namespace Go.Proofs.Ytaonepbongbhoaa.Az
open Go.RowKit
section
variable {P : Program} {ops : Array Oper} {Q : Exit → Go.Act → World → Prop} {md : Region.Mode} {S : World → Prop} {z e : Nat}
theorem anyZ_firstD {i : Nat} {oi : Oper} {v : Value} (D : List Nat) (hi : ops[i]? = some oi) (hsel : ∀ (j : Nat) (o : Oper) cs b, ops[j]? = some o → o.op ≠ .select cs b)
    (hQ : ∀ c a w, Q (.panic c) (a.put oi.dst v) w → Q (.panic c) a w) (hD : ∀ j ∈ D, ∃ oz, ops[j]? = some oz ∧ ∃ f ∈ oz.after, Region.binds md f = true ∧ (f.on = i ∨ f.on ∈ D)) (hz : ∀ j, z ≤ j → j ≠ e → j < ops.size → j ∈ D) (hiD : i ∉ D) :
    ∀ (fuel : Nat) (listed : Array Bool) (a : Go.Act) (w : World),
      (∀ j oj, ops[j]? = some oj → j ≠ i → listed.getD j true = false → (∀ f ∈ oj.after, Region.binds md f = true → f.on ≠ i) → oi.apart ops oj = true) → (∀ j ∈ D, listed.getD j true = false) →
      i ∈ Region.ready md ops listed → YieldsIf P ops S oi v a → S w →
      anyZ P md ops Q S z e fuel (listed.setIfInBounds i true) (a.put oi.dst v) w → anyZ P md ops Q S z e (fuel + 1) listed a w := by
  intro fuel
  induction fuel with
  | zero =>
    intro listed a w _ _ hr hy hS H
    refine ⟨fun h => (by rw [h] at hr; cases hr), fun j hj => ?_⟩
    by_cases he : j = i
    · subst he; exact hy.wpOp hi hS ⟨⟨fun _ _ => hS, fun _ h => h⟩, H⟩
    · have := ready_mono hj he
      rw [H.1] at this; cases this
  | succ fuel ih =>
    intro listed a w hfree hun' hr hy hS H
    refine ⟨fun h => (by rw [h] at hr; cases hr), fun j hj => ?_⟩
    by_cases he : j = i
    · subst he; exact hy.wpOp hi hS ⟨⟨fun _ _ => hS, fun _ h => h⟩, H⟩
    · obtain ⟨hun, oj, hoj, hall⟩ := mem_ready.1 hj
      have hno := ready_wait hr hj hoj
      have hjD : j ∉ D := fun hjD => by
        obtain ⟨oz, hoz, f, hf, hfb, hfo⟩ := hD j hjD
        obtain rfl : oj = oz := Option.some.inj (hoj.symm.trans hoz)
        rcases hfo with hfo | hfo
        · exact absurd hfo (hno f hf hfb)
        · have e1 := hall f hf hfb
          have e2 := hun' f.on hfo
          by_cases hl : f.on < listed.size
          · simp [hl] at e1 e2; rw [e1] at e2; cases e2
          · simp [hl] at e1
      have hjz : j < z ∨ j = e := by
        rcases Nat.lt_or_ge j z with h | h
        · exact .inl h
        · by_cases hje : j = e
          · exact .inr hje
          · exact absurd (hz j h hje (Array.getElem?_eq_some_iff.1 hoj).1) hjD
      have h2 := wpOp_putIf hoj (hfree j oj hoj he hun hno) (fun cs b => hsel i oi cs b hi) (fun cs b => hsel j oj cs b hoj) hQ hy (H.2 j (ready_mono hj he))
      refine wpOp_mono (fun a' w' h3 => ?_) h2
      have hS' : S w' := by
        by_cases hje : j = e
        · exact h3.2.1.stays hje hS
        · rcases hjz with h | h
          · exact h3.2.1.strict h hje
          · exact absurd h hje
      refine ⟨h3.2.1, ih (listed.setIfInBounds j true) a' w' (fun k ok hk hki hu hn => hfree k ok hk hki (set_of listed hu) hn) (fun k hk => ?_) (ready_mono hr (Ne.symm he)) h3.1 hS' ?_⟩
      · rw [getD_set_ne true (show j ≠ k from fun h => hjD (by rw [h]; exact hk))]; exact hun' k hk
      · rw [Array.setIfInBounds_comm _ _ he]
        exact h3.2.2
def waitsD (md : Region.Mode) (ops : Array Oper) (listed : Array Bool) (z e i : Nat) (D : List Nat) : Bool :=
  D.all (fun j => !(listed.getD j true) && (ops[j]?.map fun oz => oz.after.any fun f => Region.binds md f && (f.on == i || D.contains f.on)).getD false) && ((List.range ops.size).all fun j => decide (j < z) || j == e || D.contains j) && !(D.contains i)
theorem take_d (D : List Nat) (i d : Nat) (v : Value) {oi : Oper} {fuel : Nat} {listed : Array Bool} {a : Go.Act} {w : World} (hi : ops[i]? = some oi) (hd : oi.dst = some d)
    (hs : Region.noSelect ops = true) (hf : Region.free md ops listed i = true) (hr : (Region.ready md ops listed).contains i = true) (hz : waitsD md ops listed z e i D = true)
    (hQ : ∀ c a w, Q (.panic c) (a.put oi.dst v) w → Q (.panic c) a w) (hy : YieldsIf P ops S oi v a) (hS : S w)
    (h : anyZ P md ops Q S z e fuel (listed.setIfInBounds i true) (a.put (some d) v) w) : anyZ P md ops Q S z e (fuel + 1) listed a w := by
  unfold waitsD at hz
  simp only [Bool.and_eq_true] at hz
  obtain ⟨⟨h1, h2⟩, h3⟩ := hz
  rw [List.all_eq_true] at h1 h2
  refine anyZ_firstD D hi (Region.noSelect_spec hs) hQ (fun j hj => ?_) (fun j h0 h4 h5 => ?_) (fun hm => by simp [hm] at h3) fuel listed a w (Region.free_spec hi hf) (fun j hj => ?_) (by simpa using hr) hy hS (by rw [hd]; exact h)
  · have := h1 j hj
    simp only [Bool.and_eq_true] at this
    cases ho : ops[j]? with
    | none => rw [ho] at this; simp at this
    | some oz =>
      rw [ho] at this
      simp only [Option.map_some, Option.getD_some, Array.any_eq_true, Bool.and_eq_true] at this
      obtain ⟨_, k, hk, hb, ho2⟩ := this
      refine ⟨oz, rfl, oz.after[k], Array.getElem_mem hk, hb, ?_⟩
      simp only [Bool.or_eq_true, beq_iff_eq, List.contains_iff_mem] at ho2
      exact ho2
  · have := h2 j (by simpa using h5)
    simp only [Bool.or_eq_true, decide_eq_true_eq, beq_iff_eq, List.contains_iff_mem] at this
    rcases this with (h | h) | h
    · omega
    · exact absurd h h4
    · exact h
  · have := h1 j hj
    simp only [Bool.and_eq_true] at this
    simpa using this.1
end
end Go.Proofs.Ytaonepbongbhoaa.Az
namespace Go.Proofs.Ytaonepbongbhoaa.Hi
open Go.RowKit
open Go.Maps (Keyed int_keyed keyOf_int_mk)
open Tx (i64p)
def nv (o : Option Nat) : Value := .int .i64 ((o.getD 0 : Nat) : Int)
/-- all that the map says is a number of the program. -/
def Fit (f : Int → Option Nat) : Prop := ∀ x k, f x = some k → 0 ≤ x ∧ x < 64 ∧ k < 4096
/-- D reads as f. -/
structure Rd (D : DataW Value) (sz : Nat) (f : Int → Option Nat) : Prop where
  tidy : Maps.Tidy D
  size : Maps.size D = sz
  has : ∀ x, Maps.has D (.int .i64 x) = (f x).isSome
  at_ : ∀ x, D.atKey (.int .i64 x) (.lit (.int .i64 0)) = .lit (.int .i64 (((f x).getD 0 : Nat) : Int))

/-- the block b is a map of sz entries, at most n, that reads as f. -/
def NM (W : World) (b n sz : Nat) (f : Int → Option Nat) : Prop := ∃ D : DataW Value, W.ownsMap Try.prog 3 (plainElem Try.prog 3) b n D ∧ Rd D sz f
theorem wf_i64 {z : Int} (h : i64p z) : (Lit.int .i64 z).wf = true := by
  obtain ⟨h0, h1⟩ := h
  have e0 : IntKind.i64.min = -9223372036854775808 := by decide
  have e1 : IntKind.i64.max = 9223372036854775807 := by decide
  simp only [Lit.wf, e0, e1, Bool.and_eq_true, decide_eq_true_eq]
  exact ⟨h0, h1⟩
theorem wf_inv {z : Int} (h : (Lit.int .i64 z).wf = true) : i64p z := by
  have e0 : IntKind.i64.min = -9223372036854775808 := by decide
  have e1 : IntKind.i64.max = 9223372036854775807 := by decide
  simp only [Lit.wf, e0, e1, Bool.and_eq_true, decide_eq_true_eq] at h
  exact h
set_option maxRecDepth 100000 in
theorem zero_int (w : World) : (zeroValue 3).run Try.prog w = .ok (.int .i64 0) w := by
  have h : (Try.prog.info? 3).map (fun i => (i.zero, i.size)) = some (some (.int .i64 0), 1) := by kernel_rfl
  exact (zero_of_info h).1 w
theorem NM.lt {W : World} {b n sz : Nat} {f : Int → Option Nat} (h : NM W b n sz f) : b < W.heap.size := by
  obtain ⟨D, ho, _⟩ := h
  exact ho.lt
theorem nm_made (W : World) : NM (W.alloc (.map #[] 0)) W.heap.size 0 0 (fun _ => none) :=
  ⟨.map [], World.ownsMap_made W _ _ _, Maps.tidy_empty, rfl, fun _ => rfl, fun _ => rfl⟩
theorem nm_made' {W : World} {b : Nat} (h : W.heap.size = b) : NM (W.alloc (.map #[] 0)) b 0 0 (fun _ => none) := by subst h; exact nm_made W
theorem NM.keep {W W' : World} {b n sz B : Nat} {f : Int → Option Nat} (h : NM W b n sz f) (hb : Below B W W') (hB : b < B) : NM W' b n sz f := by
  obtain ⟨D, ⟨es, clock, hh, F, hs, hD⟩, hm⟩ := h
  exact ⟨D, ⟨es, clock, (hb.block b hB).trans hh, F, hs, hD⟩, hm⟩
theorem NM.below {W W' : World} {b n sz : Nat} {f : Int → Option Nat} (h : NM W b n sz f) (hb : Below W.heap.size W W') : NM W' b n sz f := h.keep hb h.lt
theorem NM.kept {W W' : World} {b n sz : Nat} {row : Option Nat} {f : Int → Option Nat} (h : NM W b n sz f) (hg : W.grownBy W' row) (hne : some b ≠ row) : NM W' b n sz f := by
  obtain ⟨D, ho, hm⟩ := h
  exact ⟨D, ho.kept hg hne, hm⟩
theorem NM.alloc {W : World} {b n sz : Nat} {f : Int → Option Nat} (h : NM W b n sz f) (o : Obj) : NM (W.alloc o) b n sz f := h.keep (Rn.below_new W o) h.lt
theorem NM.mono {W : World} {b n m sz : Nat} {f : Int → Option Nat} (h : NM W b n sz f) (hm : n ≤ m) : NM W b m sz f := by
  obtain ⟨D, ho, hr⟩ := h
  exact ⟨D, ho.mono hm, hr⟩
/-- the block is a map and no row. -/
theorem NM.ne {W : World} {b n sz g : Nat} {f : Int → Option Nat} {c : Array Value} {t : TypeId} {fr : Nat × Nat} (h : NM W b n sz f) (hg : W.heap[g]? = some (.cells c t fr)) : b ≠ g := by
  rintro rfl
  obtain ⟨D, ⟨es, clock, hh, _⟩, _⟩ := h
  rw [hh] at hg; cases hg
theorem NM.look {W : World} {b n sz : Nat} {f : Int → Option Nat} (h : NM W b n sz f) {x : Int} (hx : i64p x) :
    (Instr.lookup 69 (.map (some b)) (.int .i64 x) true).run Try.prog W = .ok (.tuple #[nv (f x), .bool (f x).isSome]) W := by
  obtain ⟨D, ho, hr⟩ := h
  obtain ⟨v, ps, hrun, hv⟩ := ho.look_ok (int_keyed Try.underlying3) Try.underlying69 (zero_int W) (zd := .lit (.int .i64 0)) (zp := []) (plainElem_int Try.underlying3 (wf_i64 ⟨by decide, by decide⟩)) (keyOf_int_mk Try.underlying3 (wf_i64 hx))
  rw [hr.at_ x] at hv
  obtain ⟨a, rfl, he, _⟩ := plainElem_int_inv Try.underlying3 hv
  simp only [Prod.mk.injEq, DataW.lit.injEq, Lit.int.injEq, true_and] at he
  rw [hrun, hr.has x, ← he.1]; rfl
theorem NM.update {W : World} {b n sz : Nat} {f : Int → Option Nat} (h : NM W b n sz f) (hn : n < 4096) {x : Int} (hx : i64p x) (k : Nat) (hk : k < 4096) :
    ∃ W', (Instr.mapUpdate 69 (.map (some b)) (.int .i64 x) (.int .i64 (k : Nat))).run Try.prog W = .ok () W' ∧ NM W' b (n + 1) (if (f x).isSome then sz else sz + 1) (upd f x k) ∧ W.grownBy W' (some b) := by
  obtain ⟨D, ho, hr⟩ := h
  obtain ⟨W', hrun, r1, r2⟩ := ho.update (int_keyed Try.underlying3) Try.underlying69 (by unfold maxLen; omega) (keyOf_int_mk Try.underlying3 (wf_i64 hx)) (val := .int .i64 (k : Nat)) (d := .lit (.int .i64 (k : Nat))) (ps := []) (plainElem_int Try.underlying3 (wf_i64 ⟨by omega, by omega⟩))
  refine ⟨W', hrun, ⟨_, r1, hr.tidy.put (by simp [WideAt.IsKeyLit]) _, ?_, ?_, ?_⟩, r2⟩
  · rw [Maps.size_put hr.tidy, hr.has x, hr.size]
  · intro y
    show _ = (if y = x then some k else f y).isSome
    by_cases e : y = x
    · subst e
      rw [if_pos rfl, Maps.has_put_same hr.tidy.isMap (by simp [WideAt.IsKeyLit])]; rfl
    · rw [if_neg e, Maps.has_put_other (by simpa using e), hr.has y]
  · intro y
    show _ = DataW.lit (Lit.int .i64 (((if y = x then some k else f y).getD 0 : Nat) : Int))
    by_cases e : y = x
    · subst e
      rw [if_pos rfl, Maps.atKey_put_same hr.tidy.isMap (by simp [WideAt.IsKeyLit])]; rfl
    · rw [if_neg e, Maps.atKey_put_other (by simpa using e), hr.at_ y]
/-- a store into the map, at the operation. -/
theorem step_putM {w : World} {ops : Array Oper} {o : Oper} {a : Act} {K : Act → World → Prop} {Q : Exit → Act → World → Prop} {F : Prop} (hgd : o.guard = none) (m x v : Operand) (hop : o.op = Op.mapUpdate 69 m x v)
    (b n sz : Nat) (f : Int → Option Nat) (hm : a.eval m = .map (some b)) (h : NM w b n sz f) (hn : n < 4096) (y : Int) (k : Nat) (hx : a.eval x = .int .i64 y) (hv : a.eval v = .int .i64 (k : Nat)) (hy : i64p y) (hk : k < 4096)
    (hK : ∀ w', NM w' b (n + 1) (if (f y).isSome then sz else sz + 1) (upd f y k) → w.grownBy w' (some b) → K (a.put o.dst undef) w') : if Region.wanted o (yielded ops a.tmps) = true then Oper.wp Try.prog o a w K Q else F := by
  obtain ⟨w', hrun, r1, r2⟩ := h.update hn hy k hk
  have hw : Region.wanted o (yielded ops a.tmps) = true := by simp [Region.wanted, hgd]
  rw [if_pos hw]
  unfold Oper.wp
  simp [execOp, hop, hm, hx, hv, hrun, Result.andThen]
  exact hK w' r1 r2
/-- how many entries the map has, at the operation. -/
theorem wpList_lenM {w : World} {ops : Array Oper} {rest : List Oper} {o : Oper} {a : Act} {Q : Exit → Act → World → Prop} (hg : o.guard = none) (m : Operand) (hop : o.op = Op.call { callee := Callee.builtin Builtin.len, args := #[m], argTypes := #[69] })
    (b n sz : Nat) (f : Int → Option Nat) (hm : a.eval m = .map (some b)) (h : NM w b n sz f) (hK : wpList Try.prog ops Q rest (a.put o.dst (.int .i64 (sz : Nat))) w) : wpList Try.prog ops Q (o :: rest) a w := by
  obtain ⟨D, ho, hr⟩ := h
  refine wpList_len_own w hg m 69 hop 3 3 Try.underlying69 (plainElem Try.prog 3) b n D hm ho ?_
  rw [hr.size]; exact hK
/-- the map is ranged over by the block r; what is left is still to come. -/
def NR (W : World) (b r n : Nat) (f : Int → Option Nat) (left : Int → Bool) (cnt : Nat) : Prop := ∃ (D : DataW Value) (sz : Nat) (l : Lit → Bool), W.ranges Try.prog 3 (plainElem Try.prog 3) b r n D l cnt ∧ Rd D sz f ∧ (∀ x, l (.int .i64 x) = left x)
theorem NR.map {W : World} {b r n cnt : Nat} {f : Int → Option Nat} {left : Int → Bool} (h : NR W b r n f left cnt) : ∃ sz, NM W b n sz f := by
  obtain ⟨D, sz, l, h1, h2, _⟩ := h
  exact ⟨sz, D, h1.owns, h2⟩
theorem NR.left_eq {W : World} {b r n cnt : Nat} {f : Int → Option Nat} {left : Int → Bool} (h : NR W b r n f left cnt) : W.rangeLeft b r = cnt := by
  obtain ⟨D, sz, l, h1, _⟩ := h
  exact h1.left_eq
theorem NR.lt {W : World} {b r n cnt : Nat} {f : Int → Option Nat} {left : Int → Bool} (h : NR W b r n f left cnt) : r < W.heap.size ∧ b < W.heap.size ∧ r ≠ b := by
  obtain ⟨D, sz, l, h1, _⟩ := h
  exact ⟨h1.lt, h1.owns.lt, h1.ne⟩
theorem NR.kept {W W' : World} {b r n cnt : Nat} {f : Int → Option Nat} {left : Int → Bool} {row : Option Nat} (h : NR W b r n f left cnt) (hg : W.grownBy W' row) (h1 : some b ≠ row) (h2 : some r ≠ row) : NR W' b r n f left cnt := by
  obtain ⟨D, sz, l, a, b, c⟩ := h
  exact ⟨D, sz, l, a.kept hg h1 h2, b, c⟩
theorem NR.below {W W' : World} {b r n cnt : Nat} {f : Int → Option Nat} {left : Int → Bool} (h : NR W b r n f left cnt) (hb : Below W.heap.size W W') : NR W' b r n f left cnt :=
  h.kept (row := none) ⟨hb.os, hb.tape, hb.output, hb.size, fun k hk _ => hb.block k hk⟩ (by simp) (by simp)
theorem wpList_rangeM {w : World} {ops : Array Oper} {rest : List Oper} {o : Oper} {a : Act} {Q : Exit → Act → World → Prop} (hg : o.guard = none) (m : Operand) (hop : o.op = Op.range 69 m) (b n sz : Nat) (f : Int → Option Nat)
    (hm : a.eval m = .map (some b)) (h : NM w b n sz f)
    (hK : ∀ w' cnt, NR w' b w.heap.size n f (fun x => (f x).isSome) cnt → Below w.heap.size w w' → w'.heap.size = w.heap.size + 1 → wpList Try.prog ops Q rest (a.put o.dst (.pointer (some ⟨w.heap.size, 0, none⟩))) w') :
    wpList Try.prog ops Q (o :: rest) a w := by
  obtain ⟨D, ho, hr⟩ := h
  refine wpList_range_own w hg m 69 hop 3 3 (int_keyed Try.underlying3) Try.underlying69 (plainElem Try.prog 3) b n D hm ho ?_
  intro w' hrg hgr hs
  exact hK w' _ ⟨D, sz, _, hrg, hr, hr.has⟩ ((Below.refl _ _).grown hgr (Nat.le_refl _) (fun k hk => by cases hk)) hs
theorem strike (left : Int → Bool) (l : Lit → Bool) (x : Int) (h : ∀ y, l (.int .i64 y) = left y) (y : Int) : (l (.int .i64 y) && !(Lit.int .i64 y).sameKey (.int .i64 x)) = (left y && !decide (y = x)) := by
  rw [h y]
  by_cases e : y = x
  · subst e
    rw [show (Lit.int .i64 y).sameKey (.int .i64 y) = true from WideAt.sameKey_self (by simp [WideAt.IsKeyLit])]; simp
  · rw [Maps.sameKey_ne (by simpa using e)]; simp [e]
theorem wpList_nextM {w : World} {ops : Array Oper} {rest : List Oper} {o : Oper} {a : Act} {Q : Exit → Act → World → Prop} (hg : o.guard = none) (it : Operand) (hop : o.op = Op.next it false) (b r n : Nat) (f : Int → Option Nat) (left : Int → Bool) (cnt : Nat)
    (hit : a.eval it = .pointer (some ⟨r, 0, none⟩)) (h : NR w b r n f left cnt) (hl : ∀ x, left x = true → (f x).isSome = true)
    (hDone : (∀ x, left x = false) → wpList Try.prog ops Q rest (a.put o.dst (.tuple #[.bool false])) w)
    (hMore : ∀ (x : Int) (k : Nat) (w' : World) (cnt' : Nat), left x = true → f x = some k → NR w' b r n f (fun z => left z && !decide (z = x)) cnt' → cnt' < cnt → w.grownBy w' (some r) → w'.heap.size = w.heap.size →
      (Instr.entry (.pointer (some ⟨r, 0, none⟩))).run Try.prog w' = .ok (.tuple #[.int .i64 x, .int .i64 (k : Nat)]) w' → wpList Try.prog ops Q rest (a.put o.dst (.tuple #[.bool true, .int .i64 x, .int .i64 (k : Nat)])) w') :
    wpList Try.prog ops Q (o :: rest) a w := by
  obtain ⟨D, sz, l, hrg, hr, hll⟩ := h
  refine wpList_next_ranges_ii w hg it hop 3 3 .i64 .i64 (int_keyed Try.underlying3) Try.underlying3 Try.underlying3 b r n D l cnt hit hrg (fun _ h0 => hDone fun x => by rw [← hll]; exact h0 _) ?_
  intro x c w' cnt' hwx hwc hlx hat hrg' hlt hgr hsz hen
  rw [hll] at hlx
  obtain ⟨k, hk⟩ := Option.isSome_iff_exists.1 (hl x hlx)
  have e := hr.at_ x
  rw [hat, hk] at e
  injection e with e
  injection e with _ e
  subst e
  exact hMore x k w' cnt' hlx hk ⟨D, sz, _, hrg', hr, strike left l x hll⟩ hlt hgr hsz hen
end Go.Proofs.Ytaonepbongbhoaa.Hi
namespace Go.Proofs.Ytaonepbongbhoaa.Tx
open Go.RowKit
def cellsOf (v : Sp) : List Value := [.int .i64 v.x, .int .i64 v.k, .int .i64 v.n, .bool v.wr]
def flat (L : List Sp) : List Value := L.flatMap cellsOf
theorem flat_nil : flat [] = [] := rfl
theorem flat_len (L : List Sp) : (flat L).length = L.length * 4 := by
  induction L with
  | nil => rfl
  | cons v L ih => simp only [flat, List.flatMap_cons, List.length_append] at ih ⊢; rw [ih]; simp [cellsOf]; omega
theorem flat_append (L M : List Sp) : flat (L ++ M) = flat L ++ flat M := by simp [flat]
theorem flat_snoc (L : List Sp) (v : Sp) : flat (L ++ [v]) = flat L ++ cellsOf v := by simp [flat]
theorem flat_at {L : List Sp} {j : Nat} {v : Sp} (h : L[j]? = some v) (i : Nat) (hi : i < 4) : (flat L)[j * 4 + i]? = (cellsOf v)[i]? := by
  obtain ⟨hl, rfl⟩ := List.getElem?_eq_some_iff.1 h
  have e : L = L.take j ++ (L[j] :: L.drop (j + 1)) := by simp
  have e2 : flat L = flat (L.take j) ++ (cellsOf L[j] ++ flat (L.drop (j + 1))) := by
    conv => lhs; rw [e]
    rw [flat_append]; rfl
  rw [e2, List.getElem?_append_right (by rw [flat_len]; simp; omega), flat_len]
  have : j * 4 + i - (List.take j L).length * 4 = i := by simp; omega
  rw [this, List.getElem?_append_left (by simp [cellsOf]; omega)]
theorem flat_one (L : List Sp) : ∀ u ∈ flat L, u.oneCell' = true := by
  intro u hu
  obtain ⟨v, _, hv⟩ := List.mem_flatMap.1 hu
  simp [cellsOf] at hv
  rcases hv with rfl | rfl | rfl | rfl <;> rfl
/-- a slice reads as these variables. -/
structure VarsAt (w : World) (A : Option Addr) (L : List Sp) : Prop where
  cell : 0 < L.length → ∃ ad, A = some ad ∧ ∀ j u, (flat L)[j]? = some u → w.cell? (ad.add j) = some u
  ok : ∀ v ∈ L, v.ok
theorem cell_lt {w : World} {p : Addr} {v : Value} (h : w.cell? p = some v) : p.block < w.heap.size := World.block_lt_of_cell? w p h
theorem add_block (ad : Addr) (j : Nat) : (ad.add j).block = ad.block := by unfold Addr.add; split <;> rfl
theorem VarsAt.below {w w' : World} {A : Option Addr} {L : List Sp} {B : Nat} (h : VarsAt w A L) (hb : Below B w w') (hB : w.heap.size ≤ B) : VarsAt w' A L :=
  ⟨fun hl => by
    obtain ⟨ad, e, hc⟩ := h.cell hl
    exact ⟨ad, e, fun j u hu => by
      have := hc j u hu
      exact (hb.cell (Nat.lt_of_lt_of_le (cell_lt this) hB)).trans this⟩, h.ok⟩
theorem add_lit (ad : Addr) (j i : Nat) : ad.add (j + (i + 1)) = ⟨(ad.add j).block, (ad.add j).off + (i + 1), none⟩ := by
  rw [← Addr.add_add, Addr.add_succ' _ i]
/-- one of them, in the walk's own words. -/
structure At4 (w : World) (p : Addr) (v : Sp) : Prop where
  c0 : w.cell? p = some (.int .i64 v.x)
  c1 : w.cell? ⟨p.block, p.off + 1, none⟩ = some (.int .i64 v.k)
  c2 : w.cell? ⟨p.block, p.off + 2, none⟩ = some (.int .i64 v.n)
  c3 : w.cell? ⟨p.block, p.off + 3, none⟩ = some (.bool v.wr)
theorem VarsAt.at_ {w : World} {A : Option Addr} {L : List Sp} (h : VarsAt w A L) {j : Nat} (hj : j < L.length) : ∃ ad v, A = some ad ∧ L[j]? = some v ∧ v.ok ∧ At4 w (ad.add (j * 4)) v := by
  obtain ⟨ad, e, hc⟩ := h.cell (by omega)
  have hv := List.getElem?_eq_getElem hj
  refine ⟨ad, L[j], e, hv, h.ok _ (List.getElem_mem hj), ?_, ?_, ?_, ?_⟩
  · exact hc _ _ ((flat_at hv 0 (by decide)).trans rfl)
  · rw [← add_lit ad (j * 4) 0]; exact hc _ _ ((flat_at hv 1 (by decide)).trans rfl)
  · rw [← add_lit ad (j * 4) 1]; exact hc _ _ ((flat_at hv 2 (by decide)).trans rfl)
  · rw [← add_lit ad (j * 4) 2]; exact hc _ _ ((flat_at hv 3 (by decide)).trans rfl)
/-- a row of the call's own reads as these variables. -/
structure OwnVars (w : World) (base : Nat) (e : TypeId) (v : Value) (L : List Sp) : Prop where
  row : w.ownsRow base e 4 v L.length (flat L)
  ok : ∀ v ∈ L, v.ok
theorem OwnVars.slice {w : World} {base : Nat} {e : TypeId} {v : Value} {L : List Sp} (h : OwnVars w base e v L) : ∃ A c, v = .slice A L.length c ∧ L.length ≤ c ∧ c ≤ maxLen ∧ VarsAt w A L := by
  rcases h.row.2 with ⟨rfl, h0⟩ | ⟨g, cap, cur, rfl, hb, hg, hn, hm, hs, ht⟩
  · exact ⟨none, 0, by rw [h0], by omega, by unfold maxLen; omega, ⟨fun hl => by omega, h.ok⟩⟩
  · exact ⟨_, cap, rfl, hn, hm, ⟨fun _ => ⟨_, rfl, h.row.cells rfl⟩, h.ok⟩⟩
theorem own_nil (w : World) (base : Nat) (e : TypeId) : OwnVars w base e (.slice none 0 0) [] := ⟨World.ownsRow_nil _ _ _ _, by simp⟩
theorem below_new (w : World) (o : Obj) : Below w.heap.size w (w.alloc o) := (Below.refl _ _).alloc (Nat.le_refl _) _
/-- a slice's type and its elements': four cells, thirty-two bytes. -/
structure VT (t e : TypeId) : Prop where
  und : Try.prog.underlying t = some (.slice e)
  inf : ∃ i z, Try.prog.info? e = some i ∧ i.zero = some z ∧ i.size = 4 ∧ i.bytes = 32 ∧ z.cells.size = 4
theorem step_info : (Try.prog.info? 48).map (fun i => (i.zero, i.size, i.bytes)) = some (some (.agg #[.int .i64 0, .int .i64 0, .int .i64 0, .bool false]), 4, 32) := by kernel_rfl
theorem lvt : VT 42 48 := by
  obtain ⟨i0, hi, hz0, hz1, hz2⟩ := info_parts step_info
  exact ⟨Try.underlying42, i0, _, hi, hz0, hz1, hz2, rfl⟩
theorem run_append_vars {t e : TypeId} (T : VT t e) (ty : TypeId) {W : World} {base : Nat} {v : Value} {L : List Sp} (hown : OwnVars W base e v L) {A : Option Addr} (c : Nat) {M : List Sp} (hM : VarsAt W A M) (hlen : L.length + M.length ≤ 1000) (hbase : base ≤ W.heap.size) :
    ∃ v' w', (Builtin.append_ #[t, t] ty #[v, .slice A M.length c]).run Try.prog W = .ok v' w' ∧ OwnVars w' base e v' (L ++ M) ∧ W.grownBy w' v.ownBlock := by
  obtain ⟨i, z, hi, hz, hs, hb, hzs⟩ := T.inf
  have hok : ∀ x ∈ L ++ M, x.ok := fun x hx => by
    rcases List.mem_append.1 hx with h | h
    · exact hown.ok x h
    · exact hM.ok x h
  rcases A with _ | ad
  · have hm : M = [] := by
      rcases M with _ | ⟨x, M⟩
      · rfl
      · obtain ⟨ad, h, _⟩ := hM.cell (by simp)
        cases h
    subst hm
    have hr : (Builtin.append_ #[t, t] ty #[v, .slice none 0 c]).run Try.prog W = .ok v W := by
      rcases hown.row.2 with ⟨rfl, h0⟩ | ⟨g, cap, cur, rfl, _, _, hnc, _⟩
      · simp [Builtin.append_, run_underlying T.und, sizeOf, typeInfo, hi, Builtin.lenOf, Builtin.firstCells]
      · simp [Builtin.append_, run_underlying T.und, sizeOf, typeInfo, hi, Builtin.lenOf, Builtin.firstCells, hnc, storeCells]
    exact ⟨v, W, hr, by simpa using hown, ⟨rfl, rfl, rfl, Nat.le_refl _, fun _ _ _ => rfl⟩⟩
  · have hc : ∀ j u, (flat M)[j]? = some u → W.cell? (ad.add j) = some u := by
      intro j u hu
      rcases M with _ | ⟨x, M⟩
      · simp [flat] at hu
      · obtain ⟨ad', h, hc⟩ := hM.cell (by simp)
        have h := Option.some.inj h
        subst h
        exact hc j u hu
    obtain ⟨v', w', hr, h2, h3, _⟩ := run_append_own (P := Try.prog) W base t ty e i z 4 32 T.und hi hz hs hb hzs (by decide) v L.length (flat L) hown.row ad M.length c (flat M) (flat_len M) hc (flat_one M) (by unfold maxLen; omega) (by omega) hbase
    refine ⟨v', w', hr, ⟨?_, hok⟩, h3⟩
    rw [List.length_append, flat_append]
    exact h2
theorem append_vars {t e : TypeId} (T : VT t e) {ops : Array Oper} {rest : List Oper} {o : Oper} {a : Act} {Q : Exit → Act → World → Prop} (hgd : o.guard = none) (s x : Operand)
    (ho : o.op = .call { callee := .builtin .append, args := #[s, x], argTypes := #[t, t] }) {W : World} {base : Nat} {v : Value} {L : List Sp} (hs : a.eval s = v) (hown : OwnVars W base e v L)
    (A : Option Addr) (c : Nat) (M : List Sp) {m : Nat} (hm : M.length = m) (hx : a.eval x = .slice A m c) (hM : VarsAt W A M) (hlen : L.length + M.length ≤ 1000) (hbase : base ≤ W.heap.size)
    (h : ∀ v' w', OwnVars w' base e v' (L ++ M) → Below base W w' → W.heap.size ≤ w'.heap.size → wpList Try.prog ops Q rest (a.put o.dst v') w') : wpList Try.prog ops Q (o :: rest) a W := by
  subst hm
  obtain ⟨v', w', hr, h2, h3⟩ := run_append_vars T o.type hown c hM hlen hbase
  refine wpList_plain hgd fun _ hK => ?_
  unfold Oper.wp execOp
  simp only [ho, resolve, invoke, builtin, Sem.run_bind, Sem.run_pure, Result.andThen_ok, List.map_toArray, List.map_cons, List.map_nil, hs, hx, hr]
  exact hK _ _ (h v' w' h2 ((Below.refl _ _).grown h3 hbase (fun k hk => (hown.row.lt k hk).1)) h3.size)
theorem OwnVars.alloc {w : World} {base : Nat} {e : TypeId} {v : Value} {L : List Sp} (h : OwnVars w base e v L) (o : Obj) : OwnVars (w.alloc o) base e v L := ⟨h.row.alloc o, h.ok⟩
theorem OwnVars.below {w w' : World} {base : Nat} {e : TypeId} {v : Value} {L : List Sp} {B : Nat} (h : OwnVars w base e v L) (hb : Below B w w') (hB : w.heap.size ≤ B) : OwnVars w' base e v L :=
  ⟨h.row.kept (row := none) ⟨hb.os, hb.tape, hb.output, hb.size, fun k hk _ => hb.block k (by omega)⟩ (by cases hv : v.ownBlock <;> simp), h.ok⟩
/-- a variable in a block of its own. -/
def stepA (v : Sp) : Array Value := #[.int .i64 v.x, .int .i64 v.k, .int .i64 v.n, .bool v.wr]
theorem new_vars (w : World) (v : Sp) (t : TypeId) (hv : v.ok) : VarsAt (w.alloc (.cells (stepA v) t)) (some ⟨w.heap.size, 0, none⟩) [v] :=
  ⟨fun _ => ⟨_, rfl, fun j u hu => by
    have hadd : (⟨w.heap.size, 0, none⟩ : Addr).add j = ⟨w.heap.size, j, none⟩ := by unfold Addr.add; split <;> simp_all
    rw [hadd, cell_of_row _ w.heap.size j (stepA v) t (0, 0) (heap_alloc_new w _)]
    simpa [flat, cellsOf, stepA] using hu⟩, fun x hx => by simp at hx; subst hx; exact hv⟩
theorem new_vars' {w : World} {g : Nat} (hg : w.heap.size = g) (v : Sp) (t : TypeId) (hv : v.ok) : VarsAt (w.alloc (.cells (stepA v) t)) (some ⟨g, 0, none⟩) [v] := by
  subst hg; exact new_vars w v t hv
theorem size_new (w : World) (o : Obj) : (w.alloc o).heap.size = w.heap.size + 1 := by simp
theorem own_empty (w : World) (e : TypeId) {g : Nat} (hg : w.heap.size = g) {base : Nat} (hb : base ≤ w.heap.size) : OwnVars (w.alloc (.cells #[] e)) base e (.slice (some ⟨g, 0, none⟩) 0 0) [] := by
  subst hg
  exact ⟨World.ownsRow_lit w #[] 0 hb (by unfold maxLen; omega) rfl, by simp⟩
theorem VarsAt.nil_ {w : World} {L : List Sp} (h : VarsAt w none L) : L = [] := by
  rcases L with _ | ⟨x, L⟩
  · rfl
  · obtain ⟨ad, h, _⟩ := h.cell (by simp)
    cases h
theorem VarsAt.alloc {w : World} {A : Option Addr} {L : List Sp} (h : VarsAt w A L) (o : Obj) : VarsAt (w.alloc o) A L := h.below (below_new w o) (Nat.le_refl _)
theorem eq_nil {t e : TypeId} (T : VT t e) (A : Option Addr) (n c : Nat) (W : World) : (binOp .eql t (.slice A n c) (.slice none 0 0)).run Try.prog W = .ok (.bool A.isNone) W := by
  simp [binOp, run_equal_slice_nil W t e A n c T.und]
theorem VarsAt.take {w : World} {ad : Addr} {L : List Sp} (h : VarsAt w (some ad) L) (x : Nat) : VarsAt w (some ad) (L.take x) :=
  ⟨fun hl => by
    obtain ⟨ad', e, hc⟩ := h.cell (by simp at hl; omega)
    have e := Option.some.inj e
    subst e
    refine ⟨ad, rfl, fun j u hu => hc j u ?_⟩
    have e2 : flat L = flat (L.take x) ++ flat (L.drop x) := by rw [← flat_append, List.take_append_drop]
    rw [e2, List.getElem?_append_left (List.getElem?_eq_some_iff.1 hu).1]
    exact hu, fun v hv => h.ok v (List.mem_of_mem_take hv)⟩
theorem VarsAt.drop {w : World} {ad : Addr} {L : List Sp} (h : VarsAt w (some ad) L) (x : Nat) : VarsAt w (some (ad.add (x * 4))) (L.drop x) :=
  ⟨fun hl => by
    obtain ⟨ad', e, hc⟩ := h.cell (by simp at hl; omega)
    have e := Option.some.inj e
    subst e
    refine ⟨_, rfl, fun j u hu => ?_⟩
    rw [Addr.add_add]
    refine hc _ u ?_
    have e2 : flat L = flat (L.take x) ++ flat (L.drop x) := by rw [← flat_append, List.take_append_drop]
    have hx : (L.take x).length = x := by simp at hl ⊢; omega
    rw [e2, List.getElem?_append_right (by rw [flat_len, hx]; omega), flat_len, hx, Nat.add_sub_cancel_left]
    exact hu, fun v hv => h.ok v (List.mem_of_mem_drop hv)⟩
theorem VarsAt.none_ (w : World) (A : Option Addr) : VarsAt w A [] := ⟨fun h => by simp at h, by simp⟩
/-- the block b holds the variable v. -/
structure VarAt (w : World) (b : Nat) (t : TypeId) (v : Sp) : Prop where
  is : w.heap[b]? = some (.cells (stepA v) t (0, 0))
theorem stepAt_new (w : World) (v : Sp) (t : TypeId) : VarAt (w.alloc (.cells (stepA v) t)) w.heap.size t v := ⟨heap_alloc_new w _⟩
theorem VarAt.lt {w : World} {b : Nat} {t : TypeId} {v : Sp} (h : VarAt w b t v) : b < w.heap.size := (Array.getElem?_eq_some_iff.1 h.is).1
theorem VarAt.below {w w' : World} {b : Nat} {t : TypeId} {v : Sp} {B : Nat} (h : VarAt w b t v) (hb : Below B w w') (hB : b < B) : VarAt w' b t v := ⟨(hb.block b hB).trans h.is⟩
theorem VarAt.alloc {w : World} {b : Nat} {t : TypeId} {v : Sp} (h : VarAt w b t v) (o : Obj) : VarAt (w.alloc o) b t v := h.below (below_new w o) h.lt
theorem VarAt.c0 {w : World} {b : Nat} {t : TypeId} {v : Sp} (h : VarAt w b t v) : w.cell? ⟨b, 0, none⟩ = some (.int .i64 v.x) := cell_of_row w b 0 _ t (0, 0) h.is
theorem VarAt.c1 {w : World} {b : Nat} {t : TypeId} {v : Sp} (h : VarAt w b t v) : w.cell? ⟨b, 1, none⟩ = some (.int .i64 v.k) := cell_of_row w b 1 _ t (0, 0) h.is
theorem VarAt.c2 {w : World} {b : Nat} {t : TypeId} {v : Sp} (h : VarAt w b t v) : w.cell? ⟨b, 2, none⟩ = some (.int .i64 v.n) := cell_of_row w b 2 _ t (0, 0) h.is
theorem VarAt.c3 {w : World} {b : Nat} {t : TypeId} {v : Sp} (h : VarAt w b t v) : w.cell? ⟨b, 3, none⟩ = some (.bool v.wr) := cell_of_row w b 3 _ t (0, 0) h.is
theorem VarAt.free {w : World} {b : Nat} {t : TypeId} {v : Sp} (h : VarAt w b t v) (i : Nat) : w.frozen? ⟨b, i, none⟩ = false := by
  simp [World.frozen?, h.is]
theorem OwnVars.mono {w : World} {base B : Nat} {e : TypeId} {v : Value} {L : List Sp} (h : OwnVars w base e v L) (hB : B ≤ base) : OwnVars w B e v L := by
  refine ⟨⟨h.row.1, ?_⟩, h.ok⟩
  rcases h.row.2 with hn | ⟨g, cap, cur, e1, hb, rest⟩
  · exact .inl hn
  · exact .inr ⟨g, cap, cur, e1, by omega, rest⟩
theorem flat_set {L : List Sp} {j : Nat} {v v' : Sp} {i : Nat} {u : Value} (h : L[j]? = some v) (hi : i < 4) (hc : (cellsOf v).set i u = cellsOf v') : (flat L).set (j * 4 + i) u = flat (L.set j v') := by
  obtain ⟨hl, rfl⟩ := List.getElem?_eq_some_iff.1 h
  have e : L = L.take j ++ (L[j] :: L.drop (j + 1)) := by simp
  have hj : (L.take j).length = j := by simp; omega
  have e2 : flat L = flat (L.take j) ++ (cellsOf L[j] ++ flat (L.drop (j + 1))) := by
    conv => lhs; rw [e]
    rw [flat_append]; rfl
  rw [e2, List.set_append_right _ _ (by rw [flat_len, hj]; omega), flat_len, hj, Nat.add_sub_cancel_left, List.set_append_left _ _ (by simp [cellsOf]; omega), hc]
  rw [List.set_eq_take_append_cons_drop, if_pos hl, flat_append]
  rfl
/-- one cell of a row of the call's own is put. -/
theorem OwnVars.put {w : World} {base g cap : Nat} {e : TypeId} {L : List Sp} (h : OwnVars w base e (.slice (some ⟨g, 0, none⟩) L.length cap) L) {j : Nat} {v v' : Sp} (hv : L[j]? = some v) (i : Nat) (hi : i < 4) (u : Value) (hc : (cellsOf v).set i u = cellsOf v') (hok : v'.ok) :
    OwnVars (w.setCell ⟨g, j * 4 + i, none⟩ u) base e (.slice (some ⟨g, 0, none⟩) (L.set j v').length cap) (L.set j v') := by
  refine ⟨?_, fun x hx => ?_⟩
  · rw [List.length_set, ← flat_set hv hi hc]
    exact (h.row.stored _ u).1
  · rcases List.mem_or_eq_of_mem_set hx with hx | rfl
    · exact h.ok x hx
    · exact hok
theorem OwnVars.open_ {w : World} {base : Nat} {e : TypeId} {v : Value} {L : List Sp} (h : OwnVars w base e v L) (hl : 0 < L.length) : ∃ g cap, v = .slice (some ⟨g, 0, none⟩) L.length cap ∧ base ≤ g ∧ g < w.heap.size := by
  rcases h.row.2 with ⟨_, h0⟩ | ⟨g, cap, cur, rfl, hb, hg, _⟩
  · omega
  · exact ⟨g, cap, rfl, hb, (Array.getElem?_eq_some_iff.1 hg).1⟩
theorem OwnVars.free {w : World} {base g cap : Nat} {e : TypeId} {L : List Sp} (h : OwnVars w base e (.slice (some ⟨g, 0, none⟩) L.length cap) L) (i : Nat) : w.frozen? ⟨g, i, none⟩ = false := h.row.frozenAt i
theorem OwnVars.get {w : World} {base g cap : Nat} {e : TypeId} {L : List Sp} (h : OwnVars w base e (.slice (some ⟨g, 0, none⟩) L.length cap) L) {j : Nat} {v : Sp} (hv : L[j]? = some v) (i : Nat) (hi : i < 4) : w.cell? ⟨g, j * 4 + i, none⟩ = (cellsOf v)[i]? := by
  have hj : j < L.length := (List.getElem?_eq_some_iff.1 hv).1
  rw [h.row.cellAt _ (by omega), flat_at hv i hi]
theorem OwnVars.get0 {w : World} {base g cap : Nat} {e : TypeId} {L : List Sp} (h : OwnVars w base e (.slice (some ⟨g, 0, none⟩) L.length cap) L) {j : Nat} {v : Sp} (hv : L[j]? = some v) : w.cell? ⟨g, j * 4, none⟩ = some (.int .i64 v.x) := h.get hv 0 (by decide)
/-- a slice that reads as these steps, its room within bounds. -/
structure SlAt (w : World) (A : Option Addr) (c : Nat) (L : List Sp) : Prop where
  at_ : VarsAt w A L
  le : L.length ≤ c
  max : c ≤ maxLen
theorem SlAt.below {w w' : World} {A : Option Addr} {c : Nat} {L : List Sp} (h : SlAt w A c L) (hb : Below w.heap.size w w') : SlAt w' A c L := ⟨h.at_.below hb (Nat.le_refl _), h.le, h.max⟩
theorem SlAt.alloc {w : World} {A : Option Addr} {c : Nat} {L : List Sp} (h : SlAt w A c L) (o : Obj) : SlAt (w.alloc o) A c L := h.below (below_new w o)
theorem OwnVars.sl {w : World} {base : Nat} {e : TypeId} {v : Value} {L : List Sp} (h : OwnVars w base e v L) : ∃ A c, v = .slice A L.length c ∧ SlAt w A c L := by
  obtain ⟨A, c, e, h1, h2, h3⟩ := h.slice
  exact ⟨A, c, e, h3, h1, h2⟩
/-- a row that was made behind a point. -/
def Fr (n : Nat) (T : Option Addr) : Prop := ∀ ad, T = some ad → n ≤ ad.block
theorem Fr.mono {n m : Nat} {T : Option Addr} (h : Fr n T) (hm : m ≤ n) : Fr m T := fun ad e => Nat.le_trans hm (h ad e)
theorem OwnVars.slf {w : World} {base : Nat} {e : TypeId} {v : Value} {L : List Sp} (h : OwnVars w base e v L) : ∃ A c, v = .slice A L.length c ∧ SlAt w A c L ∧ Fr base A := by
  obtain ⟨A, c, e1, h1⟩ := h.sl
  refine ⟨A, c, e1, h1, ?_⟩
  rcases h.row.2 with ⟨e2, _⟩ | ⟨g, cap, cur, e2, hb, _⟩
  · rw [e1] at e2
    have ha := (Value.slice.inj e2).1
    exact fun ad e => by rw [ha] at e; cases e
  · rw [e1] at e2
    have ha := (Value.slice.inj e2).1
    exact fun ad e => by rw [ha] at e; cases e; exact hb
end Go.Proofs.Ytaonepbongbhoaa.Tx
namespace Go.Proofs.Ytaonepbongbhoaa.Tx
open Go.RowKit
def RowRel (L : List Sp) (e : TypeId) (w : World) (v i : Value) (wr : World) : Prop := ∃ k : Nat, k ≤ L.length ∧ i = .int .i64 k ∧ OwnVars wr w.heap.size e v (L.take k) ∧ Below w.heap.size w wr
/-- a row of the call's own, and nothing that was there is changed. -/
def RowPost (L : List Sp) (e : TypeId) (w : World) (x : Ending) (w' : World) : Prop := ∃ v, x = .returned v ∧ OwnVars w' w.heap.size e v L ∧ Below w.heap.size w w'
theorem below_drewN (B : Nat) (w : World) (n : Nat) : Below B w (w.drewN n) := ⟨rfl, rfl, rfl, Nat.le_refl _, fun _ _ => rfl⟩
def SameRel (L : List Sp) (w : World) (i : Value) (wr : World) : Prop := ∃ k : Nat, k ≤ L.length ∧ i = .int .i64 k ∧ Below w.heap.size w wr
set_option maxHeartbeats 1000000 in
theorem right_any (k n : Int) (w : World) :
    Calls Try.prog 61 #[.agg #[.int .i64 k, .int .i64 n]] w fun e w' => e = .returned (.bool (right k n)) ∧ Below w.heap.size w w' := by
  unfold right
  by_cases h0 : k = 0
  · subst h0
    go_enter Try.func61, Try.ntmps61
    go_wp2
    go_ret
    exact ⟨rfl, below_new _ _⟩
  by_cases h1 : k = 1
  · subst h1
    go_enter Try.func61, Try.ntmps61
    go_wp2
    go_ret
    exact ⟨rfl, below_new _ _⟩
  by_cases h2 : k = 2
  · subst h2
    by_cases hn : 0 ≤ n
    · have hd : decide (0 ≤ n) = true := by simpa using hn
      go_enter Try.func61, Try.ntmps61
      go_wp2
      go_ret
      exact ⟨rfl, below_new _ _⟩
    · have hd : decide (0 ≤ n) = false := by simpa using hn
      go_enter Try.func61, Try.ntmps61
      go_wp2
      go_ret
      exact ⟨rfl, below_new _ _⟩
  · go_enter Try.func61, Try.ntmps61
    go_wp2
    go_ret
    exact ⟨rfl, below_new _ _⟩
theorem right_val (k n : Int) (b : Bool) (w : World) (h : right k n = b) :
    Calls Try.prog 61 #[.agg #[.int .i64 k, .int .i64 n]] w fun e w' => e = .returned (.bool b) ∧ Below w.heap.size w w' := by
  have := right_any k n w
  rwa [h] at this
end Go.Proofs.Ytaonepbongbhoaa.Tx
