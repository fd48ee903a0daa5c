/-
  Rows of values and rows of entries in memory.
  Contracts of the functions that make rows of values out of others, of the library's Clone at values and at steps, of the comparison of values.
  Rows of entries of the call's own: how they grow.
  Contracts of the functions of package span, and of math.Trunc that it calls: each returns what the plain mathematics says, and leaves the world as it was.
-/
import Derived.Test.YtaonepbongbhoaaKB
import Derived.Test.YtaonepbongbhoaaKA
import Derived.Test.YtaonepbongbhoaaProg
import Derived.WalkKit
import Derived.WalkLawsBesides
import Derived.Laws.Externs
import Derived.Lib.Hide
import Derived.Below
import Derived.Laws.Rows
namespace Go.Proofs.Ytaonepbongbhoaa.Rp
open Go.RowKit Tx
abbrev encV : Rn.Enc Vp where
  n := 2
  pos := by decide
  cells v := [.int .i64 v.1, .int .i64 v.2]
  len _ := rfl
  one v u hu := by simp at hu; rcases hu with rfl | rfl <;> rfl
/-- an entry as it lies: its reads' and its writes' slices. -/
structure Xc where
  e : Ent
  A : Option Addr
  c : Nat
  B : Option Addr
  d : Nat
abbrev encX : Rn.Enc Xc where
  n := 5
  pos := by decide
  cells x := [.int .i64 x.e.id, .bool x.e.com, .bool x.e.ovr, .slice x.A x.e.rd.length x.c, .slice x.B x.e.wt.length x.d]
  len _ := rfl
  one v u hu := by simp at hu; rcases hu with rfl | rfl | rfl | rfl | rfl <;> rfl
def valA (v : Vp) : Array Value := #[.int .i64 v.1, .int .i64 v.2]
def entA (x : Xc) : Array Value := #[.int .i64 x.e.id, .bool x.e.com, .bool x.e.ovr, .slice x.A x.e.rd.length x.c, .slice x.B x.e.wt.length x.d]
theorem val_info : (Try.prog.info? 46).map (fun i => (i.zero, i.size, i.bytes)) = some (some (.agg #[.int .i64 0, .int .i64 0]), 2, 16) := by kernel_rfl
theorem rval_info : (Try.prog.info? 55).map (fun i => (i.zero, i.size, i.bytes)) = some (some (.agg #[.int .i64 0, .int .i64 0]), 2, 16) := by kernel_rfl
theorem ent_info : (Try.prog.info? 44).map (fun i => (i.zero, i.size, i.bytes)) = some (some (.agg #[.int .i64 0, .bool false, .bool false, .slice none 0 0, .slice none 0 0]), 5, 64) := by kernel_rfl
theorem vtV : Rn.VT encV 82 46 := by
  obtain ⟨i0, hi, hz0, hz1, hz2⟩ := info_parts val_info
  exact ⟨Try.underlying82, i0, _, hi, hz0, hz1, by rw [hz2]; decide, rfl⟩
theorem vtX : Rn.VT encX 40 44 := by
  obtain ⟨i0, hi, hz0, hz1, hz2⟩ := info_parts ent_info
  exact ⟨Try.underlying40, i0, _, hi, hz0, hz1, by rw [hz2]; decide, rfl⟩
/-- a value, in the walk's own words. -/
theorem at2 {w : World} {A : Option Addr} {L : List Vp} (h : Rn.At encV w A L) {j : Nat} {v : Vp} (hv : L[j]? = some v) : ∃ ad, A = some ad ∧ w.cell? (ad.add (j * 2)) = some (.int .i64 v.1) ∧ w.cell? ⟨(ad.add (j * 2)).block, (ad.add (j * 2)).off + 1, none⟩ = some (.int .i64 v.2) := by
  obtain ⟨ad, e, hc⟩ := h.get hv
  refine ⟨ad, e, hc 0 _ rfl, ?_⟩
  rw [← Rn.add_lit ad (j * 2) 0]; exact hc 1 _ rfl
/-- an entry, in the walk's own words. -/
structure At5 (w : World) (p : Addr) (x : Xc) : Prop where
  c0 : w.cell? p = some (.int .i64 x.e.id)
  c1 : w.cell? ⟨p.block, p.off + 1, none⟩ = some (.bool x.e.com)
  c2 : w.cell? ⟨p.block, p.off + 2, none⟩ = some (.bool x.e.ovr)
  c3 : w.cell? ⟨p.block, p.off + 3, none⟩ = some (.slice x.A x.e.rd.length x.c)
  c4 : w.cell? ⟨p.block, p.off + 4, none⟩ = some (.slice x.B x.e.wt.length x.d)
theorem at5 {w : World} {A : Option Addr} {X : List Xc} (h : Rn.At encX w A X) {j : Nat} {x : Xc} (hx : X[j]? = some x) : ∃ ad, A = some ad ∧ At5 w (ad.add (j * 5)) x := by
  obtain ⟨ad, e, hc⟩ := h.get hx
  refine ⟨ad, e, hc 0 _ rfl, ?_, ?_, ?_, ?_⟩
  · rw [← Rn.add_lit ad (j * 5) 0]; exact hc 1 _ rfl
  · rw [← Rn.add_lit ad (j * 5) 1]; exact hc 2 _ rfl
  · rw [← Rn.add_lit ad (j * 5) 2]; exact hc 3 _ rfl
  · rw [← Rn.add_lit ad (j * 5) 3]; exact hc 4 _ rfl
/-- the slices of an entry read as its steps. -/
structure RdX (w : World) (x : Xc) : Prop where
  rd : SlAt w x.A x.c x.e.rd
  wt : SlAt w x.B x.d x.e.wt
theorem RdX.below {w w' : World} {x : Xc} {B : Nat} (h : RdX w x) (hb : Below B w w') (hB : w.heap.size ≤ B) : RdX w' x :=
  ⟨⟨h.rd.at_.below hb hB, h.rd.le, h.rd.max⟩, ⟨h.wt.at_.below hb hB, h.wt.le, h.wt.max⟩⟩
/-- a slice reads as these entries, each with its steps. -/
structure ItAt (w : World) (A : Option Addr) (X : List Xc) (L : List Ent) : Prop where
  row : Rn.At encX w A X
  es : X.map (·.e) = L
  rd : ∀ x ∈ X, RdX w x
theorem ItAt.below {w w' : World} {A : Option Addr} {X : List Xc} {L : List Ent} {B : Nat} (h : ItAt w A X L) (hb : Below B w w') (hB : w.heap.size ≤ B) : ItAt w' A X L :=
  ⟨h.row.below hb hB, h.es, fun x hx => (h.rd x hx).below hb hB⟩
theorem ItAt.len {w : World} {A : Option Addr} {X : List Xc} {L : List Ent} (h : ItAt w A X L) : X.length = L.length := by rw [← h.es, List.length_map]
/-- the steps of entries are few. -/
def few (l : List Ent) : Prop := ∀ e ∈ l, e.rd.length ≤ 300 ∧ e.wt.length ≤ 300
theorem ItAt.at_ {w : World} {A : Option Addr} {X : List Xc} {L : List Ent} (h : ItAt w A X L) {j : Nat} (hj : j < L.length) : ∃ ad x, A = some ad ∧ X[j]? = some x ∧ L[j]? = some x.e ∧ RdX w x ∧ At5 w (ad.add (j * 5)) x := by
  have hl := h.len
  have hx := List.getElem?_eq_getElem (l := X) (i := j) (by omega)
  obtain ⟨ad, e, h5⟩ := at5 h.row hx
  have hm : (X.map (·.e))[j]? = some X[j].e := by rw [List.getElem?_map, hx]; rfl
  rw [h.es] at hm
  exact ⟨ad, _, e, hx, hm, h.rd _ (List.getElem_mem _), h5⟩
/-- a row of values: what a call hands back. -/
def VlPost (S : List Vp) (e : TypeId) (w : World) (x : Ending) (w' : World) : Prop := ∃ v, x = .returned v ∧ Rn.Own encV w' w.heap.size e v S ∧ Below w.heap.size w w'
end Go.Proofs.Ytaonepbongbhoaa.Rp
namespace Go.Proofs.Ytaonepbongbhoaa.Rp
open Go.RowKit Tx
def VlRel (L : List Vp) (e : TypeId) (w : World) (v i : Value) (wr : World) : Prop := ∃ k : Nat, k ≤ L.length ∧ i = .int .i64 k ∧ Rn.Own encV wr w.heap.size e v (L.take k) ∧ Below w.heap.size w wr
set_option maxHeartbeats 1000000 in
theorem vclone_any (A : Option Addr) (c : Nat) (L : List Vp) (w : World) (h : Rn.At encV w A L) (hl : L.length ≤ 300) :
    Calls Try.prog 56 #[.slice A L.length c] w (VlPost L 46 w) := by
  have H := Lib.hid h
  clear h
  have hnil := fun W => Rn.eq_nil vtV A L.length c W
  rcases A with _ | ad
  · obtain rfl := H.out.nil_
    clear hnil
    have hnil := fun W => Rn.eq_nil vtV none 0 c W
    go_enter Try.func56, Try.ntmps56
    go_wp2
    go_ret
    exact ⟨_, rfl, Rn.Own.nil _ _ _, Below.refl _ _⟩
  · go_enter Try.func56, Try.ntmps56
    go_wp2_with (at_builtin; refine Rn.append_row encV vtV rfl _ _ rfl rfl (Rn.Own.empty w 46 rfl (Nat.le_refl _)) _ _ L rfl rfl (H.out.alloc _) ?c1 ?c2 ?_)
    case c1 => simp; omega
    case c2 => simp
    intro v' w1 ho1 hb1 hs1
    have HO1 := Lib.hid ho1
    have HB1 := Lib.hid ((below_new w (.cells #[] 46)).trans hb1)
    clear ho1 hb1
    go_wp2
    go_ret
    exact ⟨_, rfl, HO1.out, HB1.out⟩
set_option maxHeartbeats 1000000 in
theorem sclone_any (A : Option Addr) (c : Nat) (L : List Sp) (w : World) (h : VarsAt w A L) (hl : L.length ≤ 300) :
    Calls Try.prog 15 #[.slice A L.length c] w (RowPost L 48 w) := by
  have H := Lib.hid h
  clear h
  have hnil := fun W => eq_nil lvt A L.length c W
  rcases A with _ | ad
  · obtain rfl := H.out.nil_
    clear hnil
    have hnil := fun W => eq_nil lvt none 0 c W
    go_enter Try.func15, Try.ntmps15
    go_wp2
    go_ret
    exact ⟨_, rfl, own_nil _ _ _, Below.refl _ _⟩
  · go_enter Try.func15, Try.ntmps15
    go_wp2_with (at_builtin; refine append_vars lvt rfl _ _ rfl rfl (own_empty w 48 rfl (Nat.le_refl _)) _ _ L rfl rfl (H.out.alloc _) ?c1 ?c2 ?_)
    case c1 => simp; omega
    case c2 => simp
    intro v' w1 ho1 hb1 hs1
    have HO1 := Lib.hid ho1
    have HB1 := Lib.hid ((below_new w (.cells #[] 48)).trans hb1)
    clear ho1 hb1
    go_wp2
    go_ret
    exact ⟨_, rfl, HO1.out, HB1.out⟩
def SmRel (L : List Vp) (w : World) (i : Value) (wr : World) : Prop := ∃ k : Nat, k ≤ L.length ∧ i = .int .i64 k ∧ Below w.heap.size w wr
end Go.Proofs.Ytaonepbongbhoaa.Rp
namespace Go.Proofs.Ytaonepbongbhoaa.Rp
open Go.RowKit Tx
def Blk (W : World) (b : Nat) (cs : Array Value) (t : TypeId) : Prop := W.heap[b]? = some (.cells cs t (0, 0))
theorem Blk.new (W : World) (cs : Array Value) (t : TypeId) : Blk (W.alloc (.cells cs t)) W.heap.size cs t := heap_alloc_new W _
theorem Blk.new' {W : World} {b : Nat} (h : W.heap.size = b) (cs : Array Value) (t : TypeId) : Blk (W.alloc (.cells cs t)) b cs t := by subst h; exact Blk.new W cs t
theorem Blk.lt {W : World} {b : Nat} {cs : Array Value} {t : TypeId} (h : Blk W b cs t) : b < W.heap.size := (Array.getElem?_eq_some_iff.1 h).1
theorem Blk.alloc {W : World} {b : Nat} {cs : Array Value} {t : TypeId} (h : Blk W b cs t) (o : Obj) : Blk (W.alloc o) b cs t := (Below.heap_alloc W o b h.lt).trans h
theorem Blk.cell {W : World} {b : Nat} {cs : Array Value} {t : TypeId} (h : Blk W b cs t) (i : Nat) : W.cell? ⟨b, i, none⟩ = cs[i]? := cell_of_row W b i _ t (0, 0) h
theorem Blk.free {W : World} {b : Nat} {cs : Array Value} {t : TypeId} (h : Blk W b cs t) (i : Nat) : W.frozen? ⟨b, i, none⟩ = false := by
  simp [World.frozen?, show W.heap[b]? = _ from h]
theorem Blk.other {W : World} {b : Nat} {cs : Array Value} {t : TypeId} (h : Blk W b cs t) {b' : Nat} (hne : b ≠ b') (i : Nat) (v : Value) : Blk (W.setCell ⟨b', i, none⟩ v) b cs t := (Below.heap_setCell _ _ _ b hne).trans h
theorem Blk.set {W : World} {b : Nat} {cs : Array Value} {t : TypeId} (h : Blk W b cs t) (i : Nat) (v : Value) : Blk (W.setCell ⟨b, i, none⟩ v) b (cs.setIfInBounds i v) t := by
  have := show W.heap[b]? = _ from h
  simp [Blk, World.setCell, Array.getElem?_modify, this]
theorem Blk.below {W W' : World} {b : Nat} {cs : Array Value} {t : TypeId} (h : Blk W b cs t) (hb : Below W.heap.size W W') : Blk W' b cs t := (hb.block b h.lt).trans h
theorem run_appendG {α : Type} (E : Rn.Enc α) {t e : TypeId} (T : Rn.VT E t e) (ty : TypeId) {W : World} {base : Nat} {v : Value} {L : List α} (hown : Rn.Own E W base e v L) {A : Option Addr} (c : Nat) {M : List α} (hM : Rn.At E W A M) (hpos : 0 < M.length) (hlen : L.length + M.length ≤ 100000) (hbase : base ≤ W.heap.size) :
    ∃ v' w', (Builtin.append_ #[t, t] ty #[v, .slice A M.length c]).run Try.prog W = .ok v' w' ∧ Rn.Own E w' base e v' (L ++ M) ∧ W.grownBy w' v.ownBlock ∧ (v'.ownBlock = v.ownBlock ∨ v'.ownBlock = some W.heap.size) := by
  obtain ⟨i, z, hi, hz, hs, hb, hzs⟩ := T.inf
  obtain ⟨ad, rfl, hc⟩ := hM.cell hpos
  have hby : (L.length + M.length) * i.bytes ≤ 140737488355328 := by
    have := Nat.mul_le_mul hlen hb
    omega
  obtain ⟨v', w', hr, h2, h3, _, h5⟩ := run_append_own_at (P := Try.prog) W base t ty e i z E.n i.bytes T.und hi hz hs rfl hzs E.pos v L.length (Rn.flat E L) hown ad M.length c (Rn.flat E M) (Rn.flat_len M) hc (Rn.flat_one M) (by unfold maxLen; omega) hby hbase
  refine ⟨v', w', hr, ?_, h3, h5⟩
  unfold Rn.Own
  rw [List.length_append, Rn.flat_append]
  exact h2
theorem append_rowG {α : Type} (E : Rn.Enc α) {t e : TypeId} (T : Rn.VT E t e) {ops : Array Oper} {rest : List Oper} {o : Oper} {a : Act} {Q : Exit → Act → World → Prop} (hgd : o.guard = none) (s x : Operand)
    (ho : o.op = .call { callee := .builtin .append, args := #[s, x], argTypes := #[t, t] }) {W : World} {base : Nat} {v : Value} {L : List α} (hs : a.eval s = v) (hown : Rn.Own E W base e v L)
    (A : Option Addr) (c : Nat) (M : List α) {m : Nat} (hm : M.length = m) (hx : a.eval x = .slice A m c) (hM : Rn.At E W A M) (hpos : 0 < M.length) (hlen : L.length + M.length ≤ 100000) (hbase : base ≤ W.heap.size)
    (h : ∀ v' w', Rn.Own E w' base e v' (L ++ M) → W.grownBy w' v.ownBlock → (v'.ownBlock = v.ownBlock ∨ v'.ownBlock = some W.heap.size) → wpList Try.prog ops Q rest (a.put o.dst v') w') : wpList Try.prog ops Q (o :: rest) a W := by
  subst hm
  obtain ⟨v', w', hr, h2, h3, h5⟩ := run_appendG E T o.type hown c hM hpos hlen hbase
  refine wpList_plain hgd fun _ hK => ?_
  unfold Oper.wp execOp
  simp only [ho, resolve, invoke, builtin, Sem.run_bind, Sem.run_pure, Result.andThen_ok, List.map_toArray, List.map_cons, List.map_nil, hs, hx, hr]
  exact hK _ _ (h v' w' h2 h3 h5)
theorem step_append_rowG {α : Type} (E : Rn.Enc α) {t e : TypeId} (T : Rn.VT E t e) {ops : Array Oper} {o : Oper} {a : Act} {K : Act → World → Prop} {Q : Exit → Act → World → Prop} {F : Prop} (hgd : o.guard = none) (s x : Operand)
    (ho : o.op = .call { callee := .builtin .append, args := #[s, x], argTypes := #[t, t] }) {W : World} {base : Nat} {v : Value} {L : List α} (hs : a.eval s = v) (hown : Rn.Own E W base e v L)
    (A : Option Addr) (c : Nat) (M : List α) {m : Nat} (hm : M.length = m) (hx : a.eval x = .slice A m c) (hM : Rn.At E W A M) (hpos : 0 < M.length) (hlen : L.length + M.length ≤ 100000) (hbase : base ≤ W.heap.size)
    (h : ∀ v' w', Rn.Own E w' base e v' (L ++ M) → W.grownBy w' v.ownBlock → (v'.ownBlock = v.ownBlock ∨ v'.ownBlock = some W.heap.size) → K (a.put o.dst v') w') : if Region.wanted o (yielded ops a.tmps) = true then Oper.wp Try.prog o a W K Q else F := by
  subst hm
  obtain ⟨v', w', hr, h2, h3, h5⟩ := run_appendG E T o.type hown c hM hpos hlen hbase
  have hw : Region.wanted o (yielded ops a.tmps) = true := by simp [Region.wanted, hgd]
  rw [if_pos hw]
  unfold Oper.wp execOp
  simp only [ho, resolve, invoke, builtin, Sem.run_bind, Sem.run_pure, Result.andThen_ok, List.map_toArray, List.map_cons, List.map_nil, hs, hx, hr]
  exact h v' w' h2 h3 h5
theorem grown_below {α : Type} {E : Rn.Enc α} {w w' : World} {base : Nat} {e : TypeId} {v : Value} {X : List α} (h : Rn.Own E w base e v X) (hg : w.grownBy w' v.ownBlock) (hb : base ≤ w.heap.size) : Below base w w' :=
  (Below.refl _ _).grown hg hb (fun k hk => (World.ownsRow.lt h k hk).1)
/-- the entry's steps lie in other blocks. -/
structure Off (r : Option Nat) (x : Xc) : Prop where
  a : ∀ ad, x.A = some ad → 0 < x.e.rd.length → r ≠ some ad.block
  b : ∀ ad, x.B = some ad → 0 < x.e.wt.length → r ≠ some ad.block
theorem vars_grown {W w' : World} {r : Option Nat} {A : Option Addr} {L : List Sp} (h : VarsAt W A L) (hg : W.grownBy w' r) (ho : ∀ ad, A = some ad → 0 < L.length → r ≠ some ad.block) : VarsAt w' A L :=
  ⟨fun hl => by
    obtain ⟨ad, e, hc⟩ := h.cell hl
    refine ⟨ad, e, fun j u hu => ?_⟩
    have h1 := hc j u hu
    have hlt := cell_lt h1
    rw [add_block] at hlt
    exact (World.cell?_of_block (a := ad.add j) (by rw [add_block]; exact hg.block ad.block hlt (fun e2 => ho ad e hl e2.symm))).trans h1, h.ok⟩
theorem RdX.grown {W w' : World} {r : Option Nat} {x : Xc} (h : RdX W x) (hg : W.grownBy w' r) (ho : Off r x) : RdX w' x :=
  ⟨⟨vars_grown h.rd.at_ hg ho.a, h.rd.le, h.rd.max⟩, ⟨vars_grown h.wt.at_ hg ho.b, h.wt.le, h.wt.max⟩⟩
/-- a row of entries of the call's own, each with its steps. -/
structure OwnI (t : TypeId) (w : World) (base : Nat) (v : Value) (X : List Xc) (L : List Ent) : Prop where
  row : Rn.Own encX w base t v X
  es : X.map (·.e) = L
  rd : ∀ x ∈ X, RdX w x
  off : ∀ x ∈ X, Off v.ownBlock x
theorem OwnI.len {t : TypeId} {w : World} {base : Nat} {v : Value} {X : List Xc} {L : List Ent} (h : OwnI t w base v X L) : X.length = L.length := by rw [← h.es, List.length_map]
theorem OwnI.below {t : TypeId} {w w' : World} {base : Nat} {v : Value} {X : List Xc} {L : List Ent} (h : OwnI t w base v X L) (hb : Below w.heap.size w w') : OwnI t w' base v X L :=
  ⟨h.row.below hb (Nat.le_refl _), h.es, fun x hx => (h.rd x hx).below hb (Nat.le_refl _), h.off⟩
theorem OwnI.nil (t : TypeId) (w : World) (base : Nat) : OwnI t w base (.slice none 0 0) [] [] := ⟨Rn.Own.nil _ _ _, rfl, by simp, by simp⟩
theorem own_lt {t : TypeId} {w : World} {base : Nat} {v : Value} {X : List Xc} (h : Rn.Own encX w base t v X) {k : Nat} (e : v.ownBlock = some k) : base ≤ k ∧ k < w.heap.size := World.ownsRow.lt h k e
theorem OwnI.snoc {t : TypeId} {W w' : World} {base : Nat} {v v' : Value} {X : List Xc} {L : List Ent} {x : Xc} (h : OwnI t W base v X L) (hx : RdX W x) (ho : Off v.ownBlock x) (h' : Rn.Own encX w' base t v' (X ++ [x])) (hg : W.grownBy w' v.ownBlock) (hl : v'.ownBlock = v.ownBlock ∨ v'.ownBlock = some W.heap.size) :
    OwnI t w' base v' (X ++ [x]) (L ++ [x.e]) := by
  have hoff : ∀ y ∈ X ++ [x], RdX W y ∧ Off v.ownBlock y := fun y hy => by
    rcases List.mem_append.1 hy with h1 | h1
    · exact ⟨h.rd y h1, h.off y h1⟩
    · rw [List.mem_singleton] at h1; subst h1; exact ⟨hx, ho⟩
  refine ⟨h', by rw [List.map_append, h.es]; rfl, fun y hy => (hoff y hy).1.grown hg (hoff y hy).2, fun y hy => ?_⟩
  rcases hl with hl | hl
  · rw [hl]; exact (hoff y hy).2
  · rw [hl]
    have hr := (hoff y hy).1
    refine ⟨fun ad e hp e2 => ?_, fun ad e hp e2 => ?_⟩
    · obtain ⟨ad', e', hc⟩ := hr.rd.at_.cell hp
      rw [e] at e'; obtain rfl := Option.some.inj e'
      have := cell_lt (hc 0 _ (List.getElem?_eq_getElem (by rw [flat_len]; omega)))
      rw [add_block] at this
      have := Option.some.inj e2
      omega
    · obtain ⟨ad', e', hc⟩ := hr.wt.at_.cell hp
      rw [e] at e'; obtain rfl := Option.some.inj e'
      have := cell_lt (hc 0 _ (List.getElem?_eq_getElem (by rw [flat_len]; omega)))
      rw [add_block] at this
      have := Option.some.inj e2
      omega
theorem off_fresh {t : TypeId} {W : World} {base n : Nat} {v : Value} {X : List Xc} (h : Rn.Own encX W base t v X) {x : Xc} (hn : W.heap.size ≤ n) (ha : Fr n x.A) (hb : Fr n x.B) : Off v.ownBlock x :=
  ⟨fun ad e _ e2 => by have := (own_lt h e2).2; have := ha ad e; omega, fun ad e _ e2 => by have := (own_lt h e2).2; have := hb ad e; omega⟩
/-- the steps lie below the row's base. -/
theorem off_old {t : TypeId} {W w : World} {base : Nat} {v : Value} {X : List Xc} (h : Rn.Own encX W base t v X) {x : Xc} (hx : RdX w x) (hb : w.heap.size ≤ base) : Off v.ownBlock x := by
  refine ⟨fun ad e hp e2 => ?_, fun ad e hp e2 => ?_⟩
  · obtain ⟨ad', e', hc⟩ := hx.rd.at_.cell hp
    rw [e] at e'; obtain rfl := Option.some.inj e'
    have h1 := cell_lt (hc 0 _ (List.getElem?_eq_getElem (by rw [flat_len]; omega)))
    rw [add_block] at h1
    have := (own_lt h e2).1
    omega
  · obtain ⟨ad', e', hc⟩ := hx.wt.at_.cell hp
    rw [e] at e'; obtain rfl := Option.some.inj e'
    have h1 := cell_lt (hc 0 _ (List.getElem?_eq_getElem (by rw [flat_len]; omega)))
    rw [add_block] at h1
    have := (own_lt h e2).1
    omega
theorem OwnI.slice {t : TypeId} {w : World} {base : Nat} {v : Value} {X : List Xc} {L : List Ent} (h : OwnI t w base v X L) : ∃ A c, v = .slice A L.length c ∧ L.length ≤ c ∧ c ≤ maxLen ∧ ItAt w A X L := by
  obtain ⟨A, c, e, h1, h2, h3, _⟩ := h.row.slice
  rw [h.len] at e h1
  exact ⟨A, c, e, h1, h2, h3, h.es, h.rd⟩
/-- the box of an entry. -/
structure BoxX (w : World) (b : Nat) (t : TypeId) (x : Xc) : Prop where
  is : w.heap[b]? = some (.cells (entA x) t (0, 0))
theorem BoxX.new (w : World) (t : TypeId) (x : Xc) : BoxX (w.alloc (.cells (entA x) t)) w.heap.size t x := ⟨heap_alloc_new w _⟩
theorem BoxX.lt {w : World} {b : Nat} {t : TypeId} {x : Xc} (h : BoxX w b t x) : b < w.heap.size := (Array.getElem?_eq_some_iff.1 h.is).1
theorem BoxX.below {w w' : World} {b : Nat} {t : TypeId} {x : Xc} {B : Nat} (h : BoxX w b t x) (hb : Below B w w') (hB : b < B) : BoxX w' b t x := ⟨(hb.block b hB).trans h.is⟩
theorem BoxX.c0 {w : World} {b : Nat} {t : TypeId} {x : Xc} (h : BoxX w b t x) : w.cell? ⟨b, 0, none⟩ = some (.int .i64 x.e.id) := cell_of_row w b 0 _ _ (0, 0) h.is
theorem BoxX.c1 {w : World} {b : Nat} {t : TypeId} {x : Xc} (h : BoxX w b t x) : w.cell? ⟨b, 1, none⟩ = some (.bool x.e.com) := cell_of_row w b 1 _ _ (0, 0) h.is
theorem BoxX.c2 {w : World} {b : Nat} {t : TypeId} {x : Xc} (h : BoxX w b t x) : w.cell? ⟨b, 2, none⟩ = some (.bool x.e.ovr) := cell_of_row w b 2 _ _ (0, 0) h.is
theorem BoxX.c3 {w : World} {b : Nat} {t : TypeId} {x : Xc} (h : BoxX w b t x) : w.cell? ⟨b, 3, none⟩ = some (.slice x.A x.e.rd.length x.c) := cell_of_row w b 3 _ _ (0, 0) h.is
theorem BoxX.c4 {w : World} {b : Nat} {t : TypeId} {x : Xc} (h : BoxX w b t x) : w.cell? ⟨b, 4, none⟩ = some (.slice x.B x.e.wt.length x.d) := cell_of_row w b 4 _ _ (0, 0) h.is
theorem BoxX.free {w : World} {b : Nat} {t : TypeId} {x : Xc} (h : BoxX w b t x) (i : Nat) : w.frozen? ⟨b, i, none⟩ = false := by simp [World.frozen?, h.is]
/-- the box, and all that lay there. -/
structure ESt (b base : Nat) (t : TypeId) (x : Xc) (w W : World) : Prop where
  box : BoxX W b t x
  bel : Below base w W
  le : base ≤ W.heap.size
theorem ESt.below {b base : Nat} {t : TypeId} {x : Xc} {w W W' : World} (h : ESt b base t x w W) (hb : Below W.heap.size W W') : ESt b base t x w W' :=
  ⟨h.box.below hb h.box.lt, h.bel.trans (hb.mono h.le), Nat.le_trans h.le hb.size⟩
theorem ESt.grown {b base : Nat} {t : TypeId} {x : Xc} {w W W' : World} {r : Option Nat} (h : ESt b base t x w W) (hg : W.grownBy W' r) (hr : r = some b → False) (hb : Below base W W') : ESt b base t x w W' :=
  ⟨⟨(hg.block b h.box.lt (fun e => hr e.symm)).trans h.box.is⟩, h.bel.trans hb, Nat.le_trans h.le hb.size⟩
def ItPost (t : TypeId) (L : List Ent) (w : World) (x : Ending) (w' : World) : Prop := ∃ v X, x = .returned v ∧ OwnI t w' w.heap.size v X L ∧ Below w.heap.size w w'
def ItRel (t : TypeId) (L : List Ent) (w : World) (v i : Value) (wr : World) : Prop := ∃ (k : Nat) (X : List Xc), k ≤ L.length ∧ i = .int .i64 k ∧ OwnI t wr w.heap.size v X (L.take k) ∧ Below w.heap.size w wr
end Go.Proofs.Ytaonepbongbhoaa.Rp
namespace Go.Proofs.Ytaonepbongbhoaa.Cx
open Go.RowKit Fl

theorem ret_bool {a b : Bool} (h : a = b) : Ending.returned (.bool a) = .returned (.bool b) := by rw [h]
theorem ret_int {k : IntKind} {a b : Int} (h : a = b) : Ending.returned (.int k a) = .returned (.int k b) := by rw [h]
theorem ret_val {a b : Value} (h : a = b) : Ending.returned a = .returned b := by rw [h]

theorem run_arch (x : Nat) (h : ∀ s t, Ieee.double.read x ≠ .nan s t) (w : World) : (callFunc 86 #[.float .f64 x]).run Try.prog w = .ok (.value (.float .f64 (trunc x))) w := by
  rw [run_callFunc_extern Try.func86 (by kernel_rfl) (by kernel_rfl) (by kernel_rfl) (e := Extern.MathFloor.toIntegral "math.archTrunc" .zero) (by kernel_rfl)]
  have e : (Extern.MathFloor.toIntegral "math.archTrunc" .zero #[.float .f64 x]).run Try.prog w = .ok (.float .f64 (trunc x)) w := by
    cases hh : Ieee.double.read x with
    | nan s t => exact absurd hh (h s t)
    | infinity s =>
      have hd : FloatKind.f64.decode x = .infinity s := hh
      unfold trunc
      rw [hh]
      show Sem.run Try.prog (Extern.MathFloor.toIntegral.match_1 (motive := fun _ => Sem Value) (FloatKind.f64.decode x) _ _) w = _
      rw [hd]
      rfl
    | number s m p =>
      have hd : FloatKind.f64.decode x = .number s m p := hh
      unfold trunc
      rw [hh]
      show Sem.run Try.prog (Extern.MathFloor.toIntegral.match_1 (motive := fun _ => Sem Value) (FloatKind.f64.decode x) _ _) w = _
      rw [hd]
      rfl
  rw [e]; rfl
set_option maxHeartbeats 400000 in
theorem trunc_any (x : Nat) (w : World) (h : ge0 x = true) :
    Calls Try.prog 72 #[.float .f64 x] w fun e w' => e = .returned (.float .f64 (trunc x)) ∧ w = w' := by
  have H := fun W => run_arch x (not_nan h) W
  clear h
  go_enter Try.func72, Try.ntmps72
  go_wp2
  go_ret
  exact ⟨rfl, rfl⟩
set_option maxHeartbeats 400000 in
theorem whole_any (x : Nat) (w : World) :
    Calls Try.prog 64 #[.float .f64 x] w fun e w' => e = .returned (.bool (prt x).isSome) ∧ w = w' := by
  have H := Lib.hid (whole_iff x)
  cases h0 : ge0 x
  · have HR := Lib.hid (show (prt x).isSome = false by
      cases h : (prt x).isSome
      · rfl
      · have := (H.out.1 h).1; rw [h0] at this; cases this)
    unfold ge0 at h0
    go_enter Try.func64, Try.ntmps64
    go_wp2
    go_ret
    rw [HR.out]; exact ⟨rfl, rfl⟩
  · have H0 := Lib.hid h0
    cases h1 : leN x
    · have HR := Lib.hid (show (prt x).isSome = false by
        cases h : (prt x).isSome
        · rfl
        · have := (H.out.1 h).2.1; rw [h1] at this; cases this)
      unfold ge0 at h0
      unfold leN at h1
      go_enter Try.func64, Try.ntmps64
      go_wp2
      go_ret
      rw [HR.out]; exact ⟨rfl, rfl⟩
    · have HR := Lib.hid (show isT x = (prt x).isSome by
        rw [Bool.eq_iff_iff, H.out]
        exact ⟨fun h => ⟨h0, h1, h⟩, fun h => h.2.2⟩)
      unfold ge0 at h0
      unfold leN at h1
      go_enter Try.func64, Try.ntmps64
      go_wp2_with (go_at_call 72; refine (trunc_any _ _ H0.out).mono ?_; rintro e w' ⟨rfl, rfl⟩)
      go_ret
      exact ⟨ret_bool HR.out, rfl⟩
theorem whole_at (x : Nat) (o : Option Nat) (w : World) (h : prt x = o) :
    Calls Try.prog 64 #[.float .f64 x] w fun e w' => e = .returned (.bool o.isSome) ∧ w = w' := by
  have := whole_any x w
  rwa [h] at this
set_option maxHeartbeats 400000 in
theorem right_any (re im : Nat) (w : World) :
    Calls Try.prog 47 #[.complex .f64 re im] w fun e w' => e = .returned (.bool (spn re im).isSome) ∧ w = w' := by
  cases h1 : prt re with
  | none =>
    have HR := Lib.hid (show spn re im = none by unfold spn; rw [h1])
    have H1 := Lib.hid h1
    clear h1
    go_enter Try.func47, Try.ntmps47
    go_wp2_with (go_at_call 64; refine (whole_at _ _ _ H1.out).mono ?_; rintro e w' ⟨rfl, rfl⟩)
    go_ret
    rw [HR.out]; exact ⟨rfl, rfl⟩
  | some b =>
    cases h2 : prt im with
    | none =>
      have HR := Lib.hid (show spn re im = none by unfold spn; rw [h1, h2])
      have H1 := Lib.hid h1
      have H2 := Lib.hid h2
      clear h1 h2
      go_enter Try.func47, Try.ntmps47
      go_wp2_with fail
      refine (whole_at _ _ _ H1.out).mono ?_
      rintro e w' ⟨rfl, rfl⟩
      go_wp2_with fail
      refine (whole_at _ _ _ H2.out).mono ?_
      rintro e w' ⟨rfl, rfl⟩
      go_wp2
      go_ret
      rw [HR.out]; exact ⟨rfl, rfl⟩
    | some e =>
      have HR := Lib.hid (show (ord re im == some .lt || ord re im == some .eq) = (spn re im).isSome by
        rw [ord_le h1 h2]; unfold spn; rw [h1, h2]
        by_cases h : b ≤ e <;> simp [h])
      have H1 := Lib.hid h1
      have H2 := Lib.hid h2
      clear h1 h2
      go_enter Try.func47, Try.ntmps47
      go_wp2_with fail
      refine (whole_at _ _ _ H1.out).mono ?_
      rintro e w' ⟨rfl, rfl⟩
      go_wp2_with fail
      refine (whole_at _ _ _ H2.out).mono ?_
      rintro e w' ⟨rfl, rfl⟩
      go_wp2
      go_ret
      exact ⟨ret_bool HR.out, rfl⟩
theorem right_at (re im : Nat) (o : Sp) (w : World) (h : spn re im = o) :
    Calls Try.prog 47 #[.complex .f64 re im] w fun e w' => e = .returned (.bool o.isSome) ∧ w = w' := by
  have := right_any re im w
  rwa [h] at this
theorem conv_part {x n : Nat} (h : prt x = some n) (w : World) : (convert 90 2 (.float .f64 x)).run Try.prog w = .ok (.int .i64 (n : Int)) w :=
  run_convert_float_int w 90 2 .f64 .i64 x n (by rw [Try.underlying90]; rfl) Try.underlying2 (toInt_part (part_iff.1 h))
set_option maxHeartbeats 400000 in
theorem begin_at (re im : Nat) (o : Sp) (w : World) (h : spn re im = o) :
    Calls Try.prog 63 #[.complex .f64 re im] w fun e w' => e = .returned (.int .i64 (bg o)) ∧ w = w' := by
  cases o with
  | none =>
    have H := Lib.hid h
    clear h
    go_enter Try.func63, Try.ntmps63
    go_wp2_with (go_at_call 47; refine (right_at _ _ _ _ H.out).mono ?_; rintro e w' ⟨rfl, rfl⟩)
    go_ret
    exact ⟨rfl, rfl⟩
  | some p =>
    obtain ⟨b, e⟩ := p
    have H := Lib.hid h
    have hc := fun W => conv_part (spn_some.1 h).1 W
    clear h
    go_enter Try.func63, Try.ntmps63
    go_wp2_with (go_at_call 47; refine (right_at _ _ _ _ H.out).mono ?_; rintro e w' ⟨rfl, rfl⟩)
    go_ret
    exact ⟨rfl, rfl⟩
set_option maxHeartbeats 400000 in
theorem end_at (re im : Nat) (o : Sp) (w : World) (h : spn re im = o) :
    Calls Try.prog 48 #[.complex .f64 re im] w fun e w' => e = .returned (.int .i64 (en o)) ∧ w = w' := by
  cases o with
  | none =>
    have H := Lib.hid h
    clear h
    go_enter Try.func48, Try.ntmps48
    go_wp2_with (go_at_call 47; refine (right_at _ _ _ _ H.out).mono ?_; rintro e w' ⟨rfl, rfl⟩)
    go_ret
    exact ⟨rfl, rfl⟩
  | some p =>
    obtain ⟨b, e⟩ := p
    have H := Lib.hid h
    have hc := fun W => conv_part (spn_some.1 h).2.1 W
    clear h
    go_enter Try.func48, Try.ntmps48
    go_wp2_with (go_at_call 47; refine (right_at _ _ _ _ H.out).mono ?_; rintro e w' ⟨rfl, rfl⟩)
    go_ret
    exact ⟨rfl, rfl⟩
/-- what a call that answers a span, or none, returns. -/
def ans (o : Sp) : Value := .tuple #[.complex .f64 (re_ o) (im_ o), .bool o.isSome]
set_option maxHeartbeats 400000 in
theorem before_at (a b c d : Nat) (s t : Sp) (w : World) (h1 : spn a b = s) (h2 : spn c d = t) :
    Calls Try.prog 28 #[.complex .f64 a b, .complex .f64 c d] w fun e w' => e = .returned (.bool (bf s t)) ∧ w = w' := by
  have H1 := Lib.hid h1
  have H2 := Lib.hid h2
  cases s with
  | none =>
    clear h1 h2
    go_enter Try.func28, Try.ntmps28
    go_wp2_with (go_at_call 47; refine (right_at _ _ _ _ H1.out).mono ?_; rintro e w' ⟨rfl, rfl⟩)
    go_ret
    exact ⟨rfl, rfl⟩
  | some p =>
    cases t with
    | none =>
      clear h1 h2
      go_enter Try.func28, Try.ntmps28
      go_wp2_with fail
      refine (right_at _ _ _ _ H1.out).mono ?_
      rintro e w' ⟨rfl, rfl⟩
      go_wp2_with fail
      refine (right_at _ _ _ _ H2.out).mono ?_
      rintro e w' ⟨rfl, rfl⟩
      go_wp2
      go_ret
      exact ⟨rfl, rfl⟩
    | some q =>
      have HR := Lib.hid (show (ord b c == some .lt) = bf (some p) (some q) by
        rw [ord_lt (spn_some.1 h1).2.1 (spn_some.1 h2).1]; rfl)
      clear h1 h2
      go_enter Try.func28, Try.ntmps28
      go_wp2_with fail
      refine (right_at _ _ _ _ H1.out).mono ?_
      rintro e w' ⟨rfl, rfl⟩
      go_wp2_with fail
      refine (right_at _ _ _ _ H2.out).mono ?_
      rintro e w' ⟨rfl, rfl⟩
      go_wp2
      go_ret
      exact ⟨ret_bool HR.out, rfl⟩
theorem before_val (a b c d : Nat) (s t : Sp) (v : Bool) (w : World) (h1 : spn a b = s) (h2 : spn c d = t) (hv : bf s t = v) :
    Calls Try.prog 28 #[.complex .f64 a b, .complex .f64 c d] w fun e w' => e = .returned (.bool v) ∧ w = w' := by
  subst hv; exact before_at a b c d s t w h1 h2
theorem mk_none {b e : Int} (h : ¬ (0 ≤ b ∧ b ≤ e ∧ e ≤ 9007199254740992)) : mk b e = none := by unfold mk; rw [if_neg h]
theorem mk_some {b e : Int} (h : 0 ≤ b ∧ b ≤ e ∧ e ≤ 9007199254740992) : mk b e = some (b.toNat, e.toNat) := by unfold mk; rw [if_pos h]
set_option maxHeartbeats 400000 in
theorem of_any (b e : Int) (w : World) :
    Calls Try.prog 62 #[.int .i64 b, .int .i64 e] w fun en w' => en = .returned (ans (mk b e)) ∧ w = w' := by
  by_cases h1 : b < 0
  · have HR := Lib.hid (mk_none (b := b) (e := e) (by omega))
    go_enter Try.func62, Try.ntmps62
    go_wp2
    go_ret2
    rw [HR.out]; exact ⟨rfl, rfl⟩
  · have d1 : decide (b < 0) = false := by simp; omega
    by_cases h2 : e < b
    · have HR := Lib.hid (mk_none (b := b) (e := e) (by omega))
      clear h1
      go_enter Try.func62, Try.ntmps62
      go_wp2
      go_ret2
      rw [HR.out]; exact ⟨rfl, rfl⟩
    · have d2 : decide (e < b) = false := by simp; omega
      by_cases h3 : 9007199254740992 < e
      · have HR := Lib.hid (mk_none (b := b) (e := e) (by omega))
        clear h1 h2
        go_enter Try.func62, Try.ntmps62
        go_wp2
        go_ret2
        rw [HR.out]; exact ⟨rfl, rfl⟩
      · have d3 : decide (9007199254740992 < e) = false := by simp; omega
        have HR := Lib.hid (mk_some (b := b) (e := e) (by omega))
        have F1 := Lib.hid (floatOfInt_nat b (by omega))
        have F2 := Lib.hid (floatOfInt_nat e (by omega))
        clear h1 h2 h3
        go_enter Try.func62, Try.ntmps62
        go_wp2
        go_ret2
        rw [HR.out, F1.out, F2.out]; exact ⟨rfl, rfl⟩
theorem of_at (b e : Int) (o : Sp) (w : World) (h : mk b e = o) :
    Calls Try.prog 62 #[.int .i64 b, .int .i64 e] w fun en w' => en = .returned (ans o) ∧ w = w' := by
  subst h; exact of_any b e w
theorem ans_none : ans none = .tuple #[.complex .f64 0 0, .bool false] := rfl
/-- the document's span as a value. -/
def rc (o : Sp) : Array Value := #[.int .i64 (bg o), .int .i64 (en o), .bool o.isSome]
def rv (o : Sp) : Value := .agg (rc o)
theorem rc_none : rc none = #[.int .i64 0, .int .i64 0, .bool false] := rfl
theorem rc_mk {b e : Int} (h : 0 ≤ b ∧ b ≤ e ∧ e ≤ 9007199254740992) : rc (mk b e) = #[.int .i64 b, .int .i64 e, .bool true] := by
  rw [mk_some h]
  show #[Value.int .i64 ((b.toNat : Nat) : Int), .int .i64 ((e.toNat : Nat) : Int), .bool true] = _
  rw [Int.toNat_of_nonneg (by omega), Int.toNat_of_nonneg (by omega)]
end Go.Proofs.Ytaonepbongbhoaa.Cx
