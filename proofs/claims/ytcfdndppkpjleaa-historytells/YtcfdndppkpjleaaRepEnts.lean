/-
  Rows of entries of the call's own: how they grow.
-/
import Derived.Test.YtcfdndppkpjleaaRepRows
import Derived.Test.YtcfdndppkpjleaaAnyZ
namespace Go.Proofs.Ytcfdndppkpjleaa.Rp
open Go.RowKit Tx
def Blk (W : World) (b : Nat) (cs : Array Value) (t : TypeId) : Prop := W.heap[b]? = some (.cells cs t (0, 0))
theorem Blk.new (W : World) (cs : Array Value) (t : TypeId) : Blk (W.alloc (.cells cs t)) W.heap.size cs t := heap_alloc_new W _
theorem Blk.new' {W : World} {b : Nat} (h : W.heap.size = b) (cs : Array Value) (t : TypeId) : Blk (W.alloc (.cells cs t)) b cs t := by subst h; exact Blk.new W cs t
theorem Blk.lt {W : World} {b : Nat} {cs : Array Value} {t : TypeId} (h : Blk W b cs t) : b < W.heap.size := (Array.getElem?_eq_some_iff.1 h).1
theorem Blk.alloc {W : World} {b : Nat} {cs : Array Value} {t : TypeId} (h : Blk W b cs t) (o : Obj) : Blk (W.alloc o) b cs t := (Below.heap_alloc W o b h.lt).trans h
theorem Blk.cell {W : World} {b : Nat} {cs : Array Value} {t : TypeId} (h : Blk W b cs t) (i : Nat) : W.cell? ⟨b, i, none⟩ = cs[i]? := cell_of_row W b i _ t (0, 0) h
theorem Blk.free {W : World} {b : Nat} {cs : Array Value} {t : TypeId} (h : Blk W b cs t) (i : Nat) : W.frozen? ⟨b, i, none⟩ = false := by
  simp [World.frozen?, show W.heap[b]? = _ from h]
theorem Blk.other {W : World} {b : Nat} {cs : Array Value} {t : TypeId} (h : Blk W b cs t) {b' : Nat} (hne : b ≠ b') (i : Nat) (v : Value) : Blk (W.setCell ⟨b', i, none⟩ v) b cs t := (Below.heap_setCell _ _ _ b hne).trans h
theorem Blk.set {W : World} {b : Nat} {cs : Array Value} {t : TypeId} (h : Blk W b cs t) (i : Nat) (v : Value) : Blk (W.setCell ⟨b, i, none⟩ v) b (cs.setIfInBounds i v) t := by
  have := show W.heap[b]? = _ from h
  simp [Blk, World.setCell, Array.getElem?_modify, this]
theorem Blk.below {W W' : World} {b : Nat} {cs : Array Value} {t : TypeId} (h : Blk W b cs t) (hb : Below W.heap.size W W') : Blk W' b cs t := (hb.block b h.lt).trans h
theorem run_appendG {α : Type} (E : Rn.Enc α) {t e : TypeId} (T : Rn.VT E t e) (ty : TypeId) {W : World} {base : Nat} {v : Value} {L : List α} (hown : Rn.Own E W base e v L) {A : Option Addr} (c : Nat) {M : List α} (hM : Rn.At E W A M) (hpos : 0 < M.length) (hlen : L.length + M.length ≤ 100000) (hbase : base ≤ W.heap.size) :
    ∃ v' w', (Builtin.append_ #[t, t] ty #[v, .slice A M.length c]).run Try.prog W = .ok v' w' ∧ Rn.Own E w' base e v' (L ++ M) ∧ W.grownBy w' v.ownBlock ∧ (v'.ownBlock = v.ownBlock ∨ v'.ownBlock = some W.heap.size) := by
  obtain ⟨i, z, hi, hz, hs, hb, hzs⟩ := T.inf
  obtain ⟨ad, rfl, hc⟩ := hM.cell hpos
  have hby : (L.length + M.length) * i.bytes ≤ 140737488355328 := by
    have := Nat.mul_le_mul hlen hb
    omega
  obtain ⟨v', w', hr, h2, h3, _, h5⟩ := run_append_own_at (P := Try.prog) W base t ty e i z E.n i.bytes T.und hi hz hs rfl hzs E.pos v L.length (Rn.flat E L) hown ad M.length c (Rn.flat E M) (Rn.flat_len M) hc (Rn.flat_one M) (by unfold maxLen; omega) hby hbase
  refine ⟨v', w', hr, ?_, h3, h5⟩
  unfold Rn.Own
  rw [List.length_append, Rn.flat_append]
  exact h2
theorem append_rowG {α : Type} (E : Rn.Enc α) {t e : TypeId} (T : Rn.VT E t e) {ops : Array Oper} {rest : List Oper} {o : Oper} {a : Act} {Q : Exit → Act → World → Prop} (hgd : o.guard = none) (s x : Operand)
    (ho : o.op = .call { callee := .builtin .append, args := #[s, x], argTypes := #[t, t] }) {W : World} {base : Nat} {v : Value} {L : List α} (hs : a.eval s = v) (hown : Rn.Own E W base e v L)
    (A : Option Addr) (c : Nat) (M : List α) {m : Nat} (hm : M.length = m) (hx : a.eval x = .slice A m c) (hM : Rn.At E W A M) (hpos : 0 < M.length) (hlen : L.length + M.length ≤ 100000) (hbase : base ≤ W.heap.size)
    (h : ∀ v' w', Rn.Own E w' base e v' (L ++ M) → W.grownBy w' v.ownBlock → (v'.ownBlock = v.ownBlock ∨ v'.ownBlock = some W.heap.size) → wpList Try.prog ops Q rest (a.put o.dst v') w') : wpList Try.prog ops Q (o :: rest) a W := by
  subst hm
  obtain ⟨v', w', hr, h2, h3, h5⟩ := run_appendG E T o.type hown c hM hpos hlen hbase
  refine wpList_plain hgd fun _ hK => ?_
  unfold Oper.wp execOp
  simp only [ho, resolve, invoke, builtin, Sem.run_bind, Sem.run_pure, Result.andThen_ok, List.map_toArray, List.map_cons, List.map_nil, hs, hx, hr]
  exact hK _ _ (h v' w' h2 h3 h5)
theorem step_append_rowG {α : Type} (E : Rn.Enc α) {t e : TypeId} (T : Rn.VT E t e) {ops : Array Oper} {o : Oper} {a : Act} {K : Act → World → Prop} {Q : Exit → Act → World → Prop} {F : Prop} (hgd : o.guard = none) (s x : Operand)
    (ho : o.op = .call { callee := .builtin .append, args := #[s, x], argTypes := #[t, t] }) {W : World} {base : Nat} {v : Value} {L : List α} (hs : a.eval s = v) (hown : Rn.Own E W base e v L)
    (A : Option Addr) (c : Nat) (M : List α) {m : Nat} (hm : M.length = m) (hx : a.eval x = .slice A m c) (hM : Rn.At E W A M) (hpos : 0 < M.length) (hlen : L.length + M.length ≤ 100000) (hbase : base ≤ W.heap.size)
    (h : ∀ v' w', Rn.Own E w' base e v' (L ++ M) → W.grownBy w' v.ownBlock → (v'.ownBlock = v.ownBlock ∨ v'.ownBlock = some W.heap.size) → K (a.put o.dst v') w') : if Region.wanted o (yielded ops a.tmps) = true then Oper.wp Try.prog o a W K Q else F := by
  subst hm
  obtain ⟨v', w', hr, h2, h3, h5⟩ := run_appendG E T o.type hown c hM hpos hlen hbase
  have hw : Region.wanted o (yielded ops a.tmps) = true := by simp [Region.wanted, hgd]
  rw [if_pos hw]
  unfold Oper.wp execOp
  simp only [ho, resolve, invoke, builtin, Sem.run_bind, Sem.run_pure, Result.andThen_ok, List.map_toArray, List.map_cons, List.map_nil, hs, hx, hr]
  exact h v' w' h2 h3 h5
theorem grown_below {α : Type} {E : Rn.Enc α} {w w' : World} {base : Nat} {e : TypeId} {v : Value} {X : List α} (h : Rn.Own E w base e v X) (hg : w.grownBy w' v.ownBlock) (hb : base ≤ w.heap.size) : Below base w w' :=
  (Below.refl _ _).grown hg hb (fun k hk => (World.ownsRow.lt h k hk).1)
/-- the entry's steps lie in other blocks. -/
structure Off (r : Option Nat) (x : Xc) : Prop where
  a : ∀ ad, x.A = some ad → 0 < x.e.rd.length → r ≠ some ad.block
  b : ∀ ad, x.B = some ad → 0 < x.e.wt.length → r ≠ some ad.block
theorem vars_grown {W w' : World} {r : Option Nat} {A : Option Addr} {L : List Sp} (h : VarsAt W A L) (hg : W.grownBy w' r) (ho : ∀ ad, A = some ad → 0 < L.length → r ≠ some ad.block) : VarsAt w' A L :=
  ⟨fun hl => by
    obtain ⟨ad, e, hc⟩ := h.cell hl
    refine ⟨ad, e, fun j u hu => ?_⟩
    have h1 := hc j u hu
    have hlt := cell_lt h1
    rw [add_block] at hlt
    exact (World.cell?_of_block (a := ad.add j) (by rw [add_block]; exact hg.block ad.block hlt (fun e2 => ho ad e hl e2.symm))).trans h1, h.ok⟩
theorem RdX.grown {W w' : World} {r : Option Nat} {x : Xc} (h : RdX W x) (hg : W.grownBy w' r) (ho : Off r x) : RdX w' x :=
  ⟨⟨vars_grown h.rd.at_ hg ho.a, h.rd.le, h.rd.max⟩, ⟨vars_grown h.wt.at_ hg ho.b, h.wt.le, h.wt.max⟩⟩
/-- a row of entries of the call's own, each with its steps. -/
structure OwnI (t : TypeId) (w : World) (base : Nat) (v : Value) (X : List Xc) (L : List Ent) : Prop where
  row : Rn.Own encX w base t v X
  es : X.map (·.e) = L
  rd : ∀ x ∈ X, RdX w x
  off : ∀ x ∈ X, Off v.ownBlock x
theorem OwnI.len {t : TypeId} {w : World} {base : Nat} {v : Value} {X : List Xc} {L : List Ent} (h : OwnI t w base v X L) : X.length = L.length := by rw [← h.es, List.length_map]
theorem OwnI.below {t : TypeId} {w w' : World} {base : Nat} {v : Value} {X : List Xc} {L : List Ent} (h : OwnI t w base v X L) (hb : Below w.heap.size w w') : OwnI t w' base v X L :=
  ⟨h.row.below hb (Nat.le_refl _), h.es, fun x hx => (h.rd x hx).below hb (Nat.le_refl _), h.off⟩
theorem OwnI.nil (t : TypeId) (w : World) (base : Nat) : OwnI t w base (.slice none 0 0) [] [] := ⟨Rn.Own.nil _ _ _, rfl, by simp, by simp⟩
theorem own_lt {t : TypeId} {w : World} {base : Nat} {v : Value} {X : List Xc} (h : Rn.Own encX w base t v X) {k : Nat} (e : v.ownBlock = some k) : base ≤ k ∧ k < w.heap.size := World.ownsRow.lt h k e
theorem OwnI.snoc {t : TypeId} {W w' : World} {base : Nat} {v v' : Value} {X : List Xc} {L : List Ent} {x : Xc} (h : OwnI t W base v X L) (hx : RdX W x) (ho : Off v.ownBlock x) (h' : Rn.Own encX w' base t v' (X ++ [x])) (hg : W.grownBy w' v.ownBlock) (hl : v'.ownBlock = v.ownBlock ∨ v'.ownBlock = some W.heap.size) :
    OwnI t w' base v' (X ++ [x]) (L ++ [x.e]) := by
  have hoff : ∀ y ∈ X ++ [x], RdX W y ∧ Off v.ownBlock y := fun y hy => by
    rcases List.mem_append.1 hy with h1 | h1
    · exact ⟨h.rd y h1, h.off y h1⟩
    · rw [List.mem_singleton] at h1; subst h1; exact ⟨hx, ho⟩
  refine ⟨h', by rw [List.map_append, h.es]; rfl, fun y hy => (hoff y hy).1.grown hg (hoff y hy).2, fun y hy => ?_⟩
  rcases hl with hl | hl
  · rw [hl]; exact (hoff y hy).2
  · rw [hl]
    have hr := (hoff y hy).1
    refine ⟨fun ad e hp e2 => ?_, fun ad e hp e2 => ?_⟩
    · obtain ⟨ad', e', hc⟩ := hr.rd.at_.cell hp
      rw [e] at e'; obtain rfl := Option.some.inj e'
      have := cell_lt (hc 0 _ (List.getElem?_eq_getElem (by rw [flat_len]; omega)))
      rw [add_block] at this
      have := Option.some.inj e2
      omega
    · obtain ⟨ad', e', hc⟩ := hr.wt.at_.cell hp
      rw [e] at e'; obtain rfl := Option.some.inj e'
      have := cell_lt (hc 0 _ (List.getElem?_eq_getElem (by rw [flat_len]; omega)))
      rw [add_block] at this
      have := Option.some.inj e2
      omega
theorem off_fresh {t : TypeId} {W : World} {base n : Nat} {v : Value} {X : List Xc} (h : Rn.Own encX W base t v X) {x : Xc} (hn : W.heap.size ≤ n) (ha : Fr n x.A) (hb : Fr n x.B) : Off v.ownBlock x :=
  ⟨fun ad e _ e2 => by have := (own_lt h e2).2; have := ha ad e; omega, fun ad e _ e2 => by have := (own_lt h e2).2; have := hb ad e; omega⟩
/-- the steps lie below the row's base. -/
theorem off_old {t : TypeId} {W w : World} {base : Nat} {v : Value} {X : List Xc} (h : Rn.Own encX W base t v X) {x : Xc} (hx : RdX w x) (hb : w.heap.size ≤ base) : Off v.ownBlock x := by
  refine ⟨fun ad e hp e2 => ?_, fun ad e hp e2 => ?_⟩
  · obtain ⟨ad', e', hc⟩ := hx.rd.at_.cell hp
    rw [e] at e'; obtain rfl := Option.some.inj e'
    have h1 := cell_lt (hc 0 _ (List.getElem?_eq_getElem (by rw [flat_len]; omega)))
    rw [add_block] at h1
    have := (own_lt h e2).1
    omega
  · obtain ⟨ad', e', hc⟩ := hx.wt.at_.cell hp
    rw [e] at e'; obtain rfl := Option.some.inj e'
    have h1 := cell_lt (hc 0 _ (List.getElem?_eq_getElem (by rw [flat_len]; omega)))
    rw [add_block] at h1
    have := (own_lt h e2).1
    omega
theorem OwnI.slice {t : TypeId} {w : World} {base : Nat} {v : Value} {X : List Xc} {L : List Ent} (h : OwnI t w base v X L) : ∃ A c, v = .slice A L.length c ∧ L.length ≤ c ∧ c ≤ maxLen ∧ ItAt w A X L := by
  obtain ⟨A, c, e, h1, h2, h3, _⟩ := h.row.slice
  rw [h.len] at e h1
  exact ⟨A, c, e, h1, h2, h3, h.es, h.rd⟩
/-- the box of an entry. -/
structure BoxX (w : World) (b : Nat) (t : TypeId) (x : Xc) : Prop where
  is : w.heap[b]? = some (.cells (entA x) t (0, 0))
theorem BoxX.new (w : World) (t : TypeId) (x : Xc) : BoxX (w.alloc (.cells (entA x) t)) w.heap.size t x := ⟨heap_alloc_new w _⟩
theorem BoxX.lt {w : World} {b : Nat} {t : TypeId} {x : Xc} (h : BoxX w b t x) : b < w.heap.size := (Array.getElem?_eq_some_iff.1 h.is).1
theorem BoxX.below {w w' : World} {b : Nat} {t : TypeId} {x : Xc} {B : Nat} (h : BoxX w b t x) (hb : Below B w w') (hB : b < B) : BoxX w' b t x := ⟨(hb.block b hB).trans h.is⟩
theorem BoxX.c0 {w : World} {b : Nat} {t : TypeId} {x : Xc} (h : BoxX w b t x) : w.cell? ⟨b, 0, none⟩ = some (.int .i64 x.e.id) := cell_of_row w b 0 _ _ (0, 0) h.is
theorem BoxX.c1 {w : World} {b : Nat} {t : TypeId} {x : Xc} (h : BoxX w b t x) : w.cell? ⟨b, 1, none⟩ = some (.bool x.e.com) := cell_of_row w b 1 _ _ (0, 0) h.is
theorem BoxX.c2 {w : World} {b : Nat} {t : TypeId} {x : Xc} (h : BoxX w b t x) : w.cell? ⟨b, 2, none⟩ = some (.bool x.e.ovr) := cell_of_row w b 2 _ _ (0, 0) h.is
theorem BoxX.c3 {w : World} {b : Nat} {t : TypeId} {x : Xc} (h : BoxX w b t x) : w.cell? ⟨b, 3, none⟩ = some (.slice x.A x.e.rd.length x.c) := cell_of_row w b 3 _ _ (0, 0) h.is
theorem BoxX.c4 {w : World} {b : Nat} {t : TypeId} {x : Xc} (h : BoxX w b t x) : w.cell? ⟨b, 4, none⟩ = some (.slice x.B x.e.wt.length x.d) := cell_of_row w b 4 _ _ (0, 0) h.is
theorem BoxX.free {w : World} {b : Nat} {t : TypeId} {x : Xc} (h : BoxX w b t x) (i : Nat) : w.frozen? ⟨b, i, none⟩ = false := by simp [World.frozen?, h.is]
/-- the box, and all that lay there. -/
structure ESt (b base : Nat) (t : TypeId) (x : Xc) (w W : World) : Prop where
  box : BoxX W b t x
  bel : Below base w W
  le : base ≤ W.heap.size
theorem ESt.below {b base : Nat} {t : TypeId} {x : Xc} {w W W' : World} (h : ESt b base t x w W) (hb : Below W.heap.size W W') : ESt b base t x w W' :=
  ⟨h.box.below hb h.box.lt, h.bel.trans (hb.mono h.le), Nat.le_trans h.le hb.size⟩
theorem ESt.grown {b base : Nat} {t : TypeId} {x : Xc} {w W W' : World} {r : Option Nat} (h : ESt b base t x w W) (hg : W.grownBy W' r) (hr : r = some b → False) (hb : Below base W W') : ESt b base t x w W' :=
  ⟨⟨(hg.block b h.box.lt (fun e => hr e.symm)).trans h.box.is⟩, h.bel.trans hb, Nat.le_trans h.le hb.size⟩
def ItPost (t : TypeId) (L : List Ent) (w : World) (x : Ending) (w' : World) : Prop := ∃ v X, x = .returned v ∧ OwnI t w' w.heap.size v X L ∧ Below w.heap.size w w'
def ItRel (t : TypeId) (L : List Ent) (w : World) (v i : Value) (wr : World) : Prop := ∃ (k : Nat) (X : List Xc), k ≤ L.length ∧ i = .int .i64 k ∧ OwnI t wr w.heap.size v X (L.take k) ∧ Below w.heap.size w wr
end Go.Proofs.Ytcfdndppkpjleaa.Rp
