/-
  Rows in memory whose elements have n cells each, whatever they stand for: read, cut, appended to, written, made, copied over.
-/
import Derived.Test.YtcfdndppkpjleaaProg
import Derived.WalkKit
import Derived.WalkMore
import Derived.WalkLawsBesides
import Derived.WalkSmall
import Derived.LoopTactic
import Derived.Lib.Hide
import Derived.Below
import Derived.OwnWalk
import Derived.Maps.AppendAt
import Derived.Laws.MakeOwn
import Derived.Laws.OwnMore
import Derived.Laws.Cover3
import Derived.Laws.CopyOwn
namespace Go.Proofs.Ytcfdndppkpjleaa.Rn
open Go.RowKit
/-- how an element lies: so many cells. -/
structure Enc (α : Type) where
  n : Nat
  pos : 0 < n
  cells : α → List Value
  len : ∀ x, (cells x).length = n
  one : ∀ x, ∀ u ∈ cells x, u.oneCell' = true
theorem cell_lt {w : World} {p : Addr} {v : Value} (h : w.cell? p = some v) : p.block < w.heap.size := World.block_lt_of_cell? w p h
theorem add_block (ad : Addr) (j : Nat) : (ad.add j).block = ad.block := by unfold Addr.add; split <;> rfl
theorem add_lit (ad : Addr) (j i : Nat) : ad.add (j + (i + 1)) = ⟨(ad.add j).block, (ad.add j).off + (i + 1), none⟩ := by
  rw [← Addr.add_add, Addr.add_succ' _ i]
theorem below_new (w : World) (o : Obj) : Below w.heap.size w (w.alloc o) := (Below.refl _ _).alloc (Nat.le_refl _) _
theorem size_new (w : World) (o : Obj) : (w.alloc o).heap.size = w.heap.size + 1 := by simp
/-- a row that was made behind a point. -/
def Fr (n : Nat) (T : Option Addr) : Prop := ∀ ad, T = some ad → n ≤ ad.block
theorem Fr.mono {n m : Nat} {T : Option Addr} (h : Fr n T) (hm : m ≤ n) : Fr m T := fun ad e => Nat.le_trans hm (h ad e)
section
variable {α : Type} {E : Enc α}
def flat (E : Enc α) (L : List α) : List Value := L.flatMap E.cells
theorem flat_append (L M : List α) : flat E (L ++ M) = flat E L ++ flat E M := by simp [flat]
theorem flat_cons (x : α) (L : List α) : flat E (x :: L) = E.cells x ++ flat E L := by simp [flat]
theorem flat_one1 (x : α) : flat E [x] = E.cells x := by simp [flat]
theorem flat_len (L : List α) : (flat E L).length = L.length * E.n := by
  induction L with
  | nil => simp [flat]
  | cons v L ih => rw [flat_cons, List.length_append, E.len, ih, List.length_cons, Nat.succ_mul, Nat.add_comm]
theorem flat_at {L : List α} {j : Nat} {v : α} (h : L[j]? = some v) (i : Nat) (hi : i < E.n) : (flat E L)[j * E.n + i]? = (E.cells v)[i]? := by
  obtain ⟨hl, rfl⟩ := List.getElem?_eq_some_iff.1 h
  have e : L = L.take j ++ (L[j] :: L.drop (j + 1)) := by simp
  have hj : (L.take j).length = j := by simp; omega
  have e2 : flat E L = flat E (L.take j) ++ (E.cells L[j] ++ flat E (L.drop (j + 1))) := by
    conv => lhs; rw [e]
    rw [flat_append, flat_cons]
  rw [e2, List.getElem?_append_right (by rw [flat_len, hj]; omega), flat_len, hj, Nat.add_sub_cancel_left, List.getElem?_append_left (by rw [E.len]; exact hi)]
theorem flat_one (L : List α) : ∀ u ∈ flat E L, u.oneCell' = true := by
  intro u hu
  obtain ⟨v, _, hv⟩ := List.mem_flatMap.1 hu
  exact E.one v u hv
theorem flat_set {L : List α} {j : Nat} {v v' : α} {i : Nat} {u : Value} (h : L[j]? = some v) (hi : i < E.n) (hc : (E.cells v).set i u = E.cells v') : (flat E L).set (j * E.n + i) u = flat E (L.set j v') := by
  obtain ⟨hl, rfl⟩ := List.getElem?_eq_some_iff.1 h
  have e : L = L.take j ++ (L[j] :: L.drop (j + 1)) := by simp
  have hj : (L.take j).length = j := by simp; omega
  have e2 : flat E L = flat E (L.take j) ++ (E.cells L[j] ++ flat E (L.drop (j + 1))) := by
    conv => lhs; rw [e]
    rw [flat_append, flat_cons]
  rw [e2, List.set_append_right _ _ (by rw [flat_len, hj]; omega), flat_len, hj, Nat.add_sub_cancel_left, List.set_append_left _ _ (by rw [E.len]; exact hi), hc]
  rw [List.set_eq_take_append_cons_drop, if_pos hl, flat_append, flat_cons]
/-- a slice reads as these elements. -/
structure At (E : Enc α) (w : World) (A : Option Addr) (L : List α) : Prop where
  cell : 0 < L.length → ∃ ad, A = some ad ∧ ∀ j u, (flat E L)[j]? = some u → w.cell? (ad.add j) = some u
theorem At.below {w w' : World} {A : Option Addr} {L : List α} {B : Nat} (h : At E w A L) (hb : Below B w w') (hB : w.heap.size ≤ B) : At E w' A L :=
  ⟨fun hl => by
    obtain ⟨ad, e, hc⟩ := h.cell hl
    exact ⟨ad, e, fun j u hu => by
      have := hc j u hu
      exact (hb.cell (Nat.lt_of_lt_of_le (cell_lt this) hB)).trans this⟩⟩
theorem At.alloc {w : World} {A : Option Addr} {L : List α} (h : At E w A L) (o : Obj) : At E (w.alloc o) A L := h.below (below_new w o) (Nat.le_refl _)
theorem At.nil (w : World) (A : Option Addr) : At E w A [] := ⟨fun h => by simp at h⟩
theorem At.nil_ {w : World} {L : List α} (h : At E w none L) : L = [] := by
  rcases L with _ | ⟨x, L⟩
  · rfl
  · obtain ⟨ad, h, _⟩ := h.cell (by simp)
    cases h
theorem At.get {w : World} {A : Option Addr} {L : List α} (h : At E w A L) {j : Nat} {v : α} (hv : L[j]? = some v) : ∃ ad, A = some ad ∧ ∀ i u, (E.cells v)[i]? = some u → w.cell? (ad.add (j * E.n + i)) = some u := by
  obtain ⟨ad, e, hc⟩ := h.cell (by have := (List.getElem?_eq_some_iff.1 hv).1; omega)
  exact ⟨ad, e, fun i u hu => hc _ _ ((flat_at hv i (by rw [← E.len v]; exact (List.getElem?_eq_some_iff.1 hu).1)).trans hu)⟩
theorem At.take {w : World} {A : Option Addr} {L : List α} (h : At E w A L) (x : Nat) : At E w A (L.take x) :=
  ⟨fun hl => by
    obtain ⟨ad, e, hc⟩ := h.cell (by simp at hl; omega)
    refine ⟨ad, e, fun j u hu => hc j u ?_⟩
    have e2 : flat E L = flat E (L.take x) ++ flat E (L.drop x) := by rw [← flat_append, List.take_append_drop]
    rw [e2, List.getElem?_append_left (List.getElem?_eq_some_iff.1 hu).1]
    exact hu⟩
theorem At.drop {w : World} {ad : Addr} {L : List α} (h : At E w (some ad) L) (x : Nat) : At E w (some (ad.add (x * E.n))) (L.drop x) :=
  ⟨fun hl => by
    obtain ⟨ad', e, hc⟩ := h.cell (by simp at hl; omega)
    have e := Option.some.inj e
    subst e
    refine ⟨_, rfl, fun j u hu => ?_⟩
    rw [Addr.add_add]
    refine hc _ u ?_
    have e2 : flat E L = flat E (L.take x) ++ flat E (L.drop x) := by rw [← flat_append, List.take_append_drop]
    have hx : (L.take x).length = x := by simp at hl ⊢; omega
    rw [e2, List.getElem?_append_right (by rw [flat_len, hx]; omega), flat_len, hx, Nat.add_sub_cancel_left]
    exact hu⟩
/-- one element in a block of its own. -/
theorem At.new (w : World) (v : α) (c : Array Value) (hc : c.toList = E.cells v) (t : TypeId) {g : Nat} (hg : w.heap.size = g) : At E (w.alloc (.cells c t)) (some ⟨g, 0, none⟩) [v] :=
  ⟨fun _ => ⟨_, rfl, fun j u hu => by
    subst hg
    have hadd : (⟨w.heap.size, 0, none⟩ : Addr).add j = ⟨w.heap.size, j, none⟩ := by unfold Addr.add; split <;> simp_all
    rw [hadd, cell_of_row _ w.heap.size j c t (0, 0) (heap_alloc_new w _)]
    rw [flat_one1, ← hc] at hu
    simpa using hu⟩⟩
/-- a row of the call's own reads as these elements. -/
def Own (E : Enc α) (w : World) (base : Nat) (e : TypeId) (v : Value) (L : List α) : Prop := w.ownsRow base e E.n v L.length (flat E L)
theorem Own.slice {w : World} {base : Nat} {e : TypeId} {v : Value} {L : List α} (h : Own E w base e v L) : ∃ A c, v = .slice A L.length c ∧ L.length ≤ c ∧ c ≤ maxLen ∧ At E w A L ∧ Fr base A := by
  rcases h.2 with ⟨rfl, h0⟩ | ⟨g, cap, cur, rfl, hb, hg, hn, hm, hs, ht⟩
  · exact ⟨none, 0, by rw [h0], by omega, by unfold maxLen; omega, ⟨fun hl => by omega⟩, fun ad e => by cases e⟩
  · exact ⟨_, cap, rfl, hn, hm, ⟨fun _ => ⟨_, rfl, World.ownsRow.cells h rfl⟩⟩, fun ad e => by cases e; exact hb⟩
theorem Own.nil (w : World) (base : Nat) (e : TypeId) : Own E w base e (.slice none 0 0) [] := by
  have := World.ownsRow_nil w base e E.n
  exact this
theorem Own.alloc {w : World} {base : Nat} {e : TypeId} {v : Value} {L : List α} (h : Own E w base e v L) (o : Obj) : Own E (w.alloc o) base e v L := World.ownsRow.alloc h o
theorem Own.below {w w' : World} {base : Nat} {e : TypeId} {v : Value} {L : List α} {B : Nat} (h : Own E w base e v L) (hb : Below B w w') (hB : w.heap.size ≤ B) : Own E w' base e v L :=
  World.ownsRow.kept (row := none) h ⟨hb.os, hb.tape, hb.output, hb.size, fun k hk _ => hb.block k (by omega)⟩ (by cases hv : v.ownBlock <;> simp)
theorem Own.mono {w : World} {base B : Nat} {e : TypeId} {v : Value} {L : List α} (h : Own E w base e v L) (hB : B ≤ base) : Own E w B e v L := by
  refine ⟨h.1, ?_⟩
  rcases h.2 with hn | ⟨g, cap, cur, e1, hb, rest⟩
  · exact .inl hn
  · exact .inr ⟨g, cap, cur, e1, by omega, rest⟩
theorem Own.empty (w : World) (e : TypeId) {g : Nat} (hg : w.heap.size = g) {base : Nat} (hb : base ≤ w.heap.size) : Own E (w.alloc (.cells #[] e)) base e (.slice (some ⟨g, 0, none⟩) 0 0) [] := by
  subst hg
  exact World.ownsRow_lit w #[] 0 hb (by unfold maxLen; omega) (by simp)
theorem Own.lt {w : World} {base g n cap : Nat} {e : TypeId} {L : List α} (h : Own E w base e (.slice (some ⟨g, 0, none⟩) n cap) L) : base ≤ g ∧ g < w.heap.size := World.ownsRow.lt h g rfl
theorem Own.ge {w : World} {base g n cap : Nat} {e : TypeId} {L : List α} (h : Own E w base e (.slice (some ⟨g, 0, none⟩) n cap) L) : L.length = n := by
  rcases h.2 with ⟨e, _⟩ | ⟨g, c, cur, e, _⟩
  · injection e with e; cases e
  · exact (Value.slice.inj e).2.1.symm
theorem Own.get {w : World} {base g n cap : Nat} {e : TypeId} {L : List α} (h : Own E w base e (.slice (some ⟨g, 0, none⟩) n cap) L) {j : Nat} {v : α} (hv : L[j]? = some v) (i : Nat) (hi : i < E.n) : w.cell? ⟨g, j * E.n + i, none⟩ = (E.cells v)[i]? := by
  obtain rfl := h.ge
  have hj : j < L.length := (List.getElem?_eq_some_iff.1 hv).1
  have h1 : j * E.n + E.n ≤ L.length * E.n := by rw [← Nat.succ_mul]; exact Nat.mul_le_mul_right _ hj
  rw [World.ownsRow.cellAt h _ (by omega), flat_at hv i hi]
theorem Own.free {w : World} {base g n cap : Nat} {e : TypeId} {L : List α} (h : Own E w base e (.slice (some ⟨g, 0, none⟩) n cap) L) (i : Nat) : w.frozen? ⟨g, i, none⟩ = false := by
  obtain rfl := h.ge
  exact World.ownsRow.frozenAt h i
theorem Own.put {w : World} {base g n cap : Nat} {e : TypeId} {L : List α} (h : Own E w base e (.slice (some ⟨g, 0, none⟩) n cap) L) {j : Nat} {v v' : α} (hv : L[j]? = some v) (i : Nat) (hi : i < E.n) (u : Value) (hc : (E.cells v).set i u = E.cells v') :
    Own E (w.setCell ⟨g, j * E.n + i, none⟩ u) base e (.slice (some ⟨g, 0, none⟩) n cap) (L.set j v') := by
  obtain rfl := h.ge
  unfold Own at h ⊢
  rw [List.length_set, ← flat_set hv hi hc]
  exact (World.ownsRow.stored h _ u).1
/-- a slice's type and its elements'. -/
structure VT (E : Enc α) (t e : TypeId) : Prop where
  und : Try.prog.underlying t = some (.slice e)
  inf : ∃ i z, Try.prog.info? e = some i ∧ i.zero = some z ∧ i.size = E.n ∧ i.bytes ≤ 64 ∧ z.cells.size = E.n
theorem run_append (E : Enc α) {t e : TypeId} (T : VT E t e) (ty : TypeId) {W : World} {base : Nat} {v : Value} {L : List α} (hown : Own E W base e v L) {A : Option Addr} (c : Nat) {M : List α} (hM : At E W A M) (hlen : L.length + M.length ≤ 100000) (hbase : base ≤ W.heap.size) :
    ∃ v' w', (Builtin.append_ #[t, t] ty #[v, .slice A M.length c]).run Try.prog W = .ok v' w' ∧ Own E w' base e v' (L ++ M) ∧ W.grownBy w' v.ownBlock := by
  obtain ⟨i, z, hi, hz, hs, hb, hzs⟩ := T.inf
  rcases A with _ | ad
  · obtain rfl := hM.nil_
    have hr : (Builtin.append_ #[t, t] ty #[v, .slice none 0 c]).run Try.prog W = .ok v W := by
      rcases hown.2 with ⟨rfl, h0⟩ | ⟨g, cap, cur, rfl, _, _, hnc, _⟩
      · simp [Builtin.append_, run_underlying T.und, sizeOf, typeInfo, hi, Builtin.lenOf, Builtin.firstCells]
      · simp [Builtin.append_, run_underlying T.und, sizeOf, typeInfo, hi, Builtin.lenOf, Builtin.firstCells, hnc, storeCells]
    exact ⟨v, W, hr, by simpa using hown, ⟨rfl, rfl, rfl, Nat.le_refl _, fun _ _ _ => rfl⟩⟩
  · have hc : ∀ j u, (flat E M)[j]? = some u → W.cell? (ad.add j) = some u := by
      intro j u hu
      rcases M with _ | ⟨x, M⟩
      · simp [flat] at hu
      · obtain ⟨ad', h, hc⟩ := hM.cell (by simp)
        have h := Option.some.inj h
        subst h
        exact hc j u hu
    have hby : (L.length + M.length) * i.bytes ≤ 140737488355328 := by
      have := Nat.mul_le_mul hlen hb
      omega
    obtain ⟨v', w', hr, h2, h3, _⟩ := run_append_own (P := Try.prog) W base t ty e i z E.n i.bytes T.und hi hz hs rfl hzs E.pos v L.length (flat E L) hown ad M.length c (flat E M) (flat_len M) hc (flat_one M) (by unfold maxLen; omega) hby hbase
    refine ⟨v', w', hr, ?_, h3⟩
    unfold Own
    rw [List.length_append, flat_append]
    exact h2
theorem append_row (E : Enc α) {t e : TypeId} (T : VT E t e) {ops : Array Oper} {rest : List Oper} {o : Oper} {a : Act} {Q : Exit → Act → World → Prop} (hgd : o.guard = none) (s x : Operand)
    (ho : o.op = .call { callee := .builtin .append, args := #[s, x], argTypes := #[t, t] }) {W : World} {base : Nat} {v : Value} {L : List α} (hs : a.eval s = v) (hown : Own E W base e v L)
    (A : Option Addr) (c : Nat) (M : List α) {m : Nat} (hm : M.length = m) (hx : a.eval x = .slice A m c) (hM : At E W A M) (hlen : L.length + M.length ≤ 100000) (hbase : base ≤ W.heap.size)
    (h : ∀ v' w', Own E w' base e v' (L ++ M) → Below base W w' → W.heap.size ≤ w'.heap.size → wpList Try.prog ops Q rest (a.put o.dst v') w') : wpList Try.prog ops Q (o :: rest) a W := by
  subst hm
  obtain ⟨v', w', hr, h2, h3⟩ := run_append E T o.type hown c hM hlen hbase
  refine wpList_plain hgd fun _ hK => ?_
  unfold Oper.wp execOp
  simp only [ho, resolve, invoke, builtin, Sem.run_bind, Sem.run_pure, Result.andThen_ok, List.map_toArray, List.map_cons, List.map_nil, hs, hx, hr]
  exact hK _ _ (h v' w' h2 ((Below.refl _ _).grown h3 hbase (fun k hk => (World.ownsRow.lt hown k hk).1)) h3.size)
theorem eq_nil {t e : TypeId} (T : VT E t e) (A : Option Addr) (n c : Nat) (W : World) : (binOp .eql t (.slice A n c) (.slice none 0 0)).run Try.prog W = .ok (.bool A.isNone) W := by
  simp [binOp, run_equal_slice_nil W t e A n c T.und]
theorem step_take {l : List α} {k : Nat} {z : α} (h : l[k]? = some z) : l.take (k + 1) = l.take k ++ [z] := by
  obtain ⟨hl, rfl⟩ := List.getElem?_eq_some_iff.1 h
  exact List.take_succ_eq_append_getElem hl
end
end Go.Proofs.Ytcfdndppkpjleaa.Rn
