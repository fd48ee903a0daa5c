/-
  What the walks of this seat's statements share: where the graph lies, that the table lies where it lay, that nothing that was there is changed.
-/
import Derived.Test.YtjciikdhjgekgaaDoorMatAlive
import Derived.Deep.MidRow
namespace Go.Proofs.YtjciikdhjgekgaaDoor
open Go.RowKit
/-- behind the first lines of a statement: the graph lies as both sides hold it. -/
structure St (w : World) (g : Nat) (m : Mm.Gr) (W : World) : Prop where
  ours : MatAt W w.heap.size m 24
  theirs : MatAt W g m 28
  tab : TabAt W
  bel : Below w.heap.size w W
theorem St.below {w W W' : World} {g : Nat} {m : Mm.Gr} (h : St w g m W) (hb : Below W.heap.size W W') : St w g m W' :=
  ⟨h.ours.below hb, h.theirs.below hb, tab_below h.tab hb, h.bel.trans (hb.mono h.bel.size)⟩
theorem below_new (W : World) (o : Obj) : Below W.heap.size W (W.alloc o) := (Below.refl _ _).alloc (Nat.le_refl _) _
theorem below_drew (W : World) : Below W.heap.size W W.drew := (Below.refl _ _).drew
theorem St.alloc {w W : World} {g : Nat} {m : Mm.Gr} (h : St w g m W) (o : Obj) : St w g m (W.alloc o) := h.below (below_new W o)
theorem St.drew {w W : World} {g : Nat} {m : Mm.Gr} (h : St w g m W) : St w g m W.drew := h.below (below_drew W)
theorem st_first {w w1 w2 : World} {m : Mm.Gr} (hT : TabAt w) (hb1 : Below (w.alloc (.cells (matA m) 24)).heap.size (w.alloc (.cells (matA m) 24)) w1) (hb2 : Below w1.heap.size w1 w2) :
    St w w2.heap.size m (w2.alloc (.cells (matA m) 28)) := by
  have h0 := below_new w (.cells (matA m) 24)
  have h1 := h0.trans (hb1.mono h0.size)
  have h2 := h1.trans (hb2.mono h1.size)
  exact ⟨(((matAt_new w m 24).below hb1).below hb2).alloc _, matAt_new _ _ _, tabAt_new (tab_below (tab_below (tabAt_new hT _) hb1) hb2) _, h2.alloc h2.size _⟩
theorem cell_lt {w : World} {p : Addr} {v : Value} (h : w.cell? p = some v) : p.block < w.heap.size := by
  rcases Nat.lt_or_ge p.block w.heap.size with hl | hg
  · exact hl
  · simp [World.cell?, Array.getElem?_eq_none hg] at h
theorem add_block (a : Addr) (n : Nat) : (a.add n).block = a.block := by unfold Addr.add; split <;> rfl
theorem tmod32 (a : Nat) : Int.tmod (a : Int) 32 = ((a % 32 : Nat) : Int) := by
  rw [Int.tmod_eq_emod_of_nonneg (by omega)]; omega
/- for regions that draw their order -/
theorem yields_mat {ops : Array Oper} {S : World → Prop} {op : Oper} {a : Act} (hw : Region.wanted op (yielded ops a.tmps) = true) (ty : TypeId) (x : Operand) (ho : op.op = .load ty x)
    (b : Nat) (hx : a.eval x = .pointer (some ⟨b, 0, none⟩)) (t : Nat) (m : Mm.Gr) {n : Nat} {el : TypeId} (hS : ∀ w, S w → MatAt w b m t)
    (hu : Tryd.prog.underlying ty = some (.array n el)) (hi : (Tryd.prog.info? ty).map (·.size) = some (matA m).size) : YieldsIf Tryd.prog ops S op (.agg (matA m)) a :=
  .inl ⟨hw, fun w hw' => by
    unfold execOp
    simp only [ho, hx, Instr.loadAt, Instr.sureAddr, Sem.run_bind, Sem.run_pure, Result.andThen_ok, run_loadVar_row w b t ty (matA m) (0, 0) _ (hS w hw') hu rfl hi]⟩
theorem take_at {ops : Array Oper} {Q : Exit → Act → World → Prop} {md : Region.Mode} {S : World → Prop} (i d : Nat) (v : Value) {oi : Oper} {fuel : Nat} {listed : Array Bool} {a : Act} {w : World} (hi : ops[i]? = some oi) (hd : oi.dst = some d)
    (hs : Region.noSelect ops = true) (hf : Region.free md ops listed i = true) (hr : (Region.ready md ops listed).contains i = true)
    (hQ : ∀ c a w, Q (.panic c) (a.put oi.dst v) w → Q (.panic c) a w) (hy : YieldsIf Tryd.prog ops S oi v a) (hS : S w)
    (h : wpAnyH Tryd.prog md ops Q S fuel (listed.setIfInBounds i true) (a.put (some d) v) w) : wpAnyH Tryd.prog md ops Q S (fuel + 1) listed a w :=
  wpAnyH_take hi hs hf hr hQ hy hS (by rw [hd]; exact h)
theorem region_start {id : Nat} {ops : Array Oper} {Q : Exit → Act → World → Prop} {S : World → Prop} {a : Act} {w : World} (n : Nat) (hn : ops.size = n) (hm : Tryd.prog.follows .mixedOrders = true) (hS : S w.drew)
    (h : S w.drew → wpAnyH Tryd.prog .any ops Q S n (Array.replicate n false) a w.drew) : (Code.region id ops true).wp Tryd.prog Q a w := by
  subst hn
  exact wp_region_held_drew hm hS h
/-- another graph beside it. -/
structure S2 (w : World) (g : Nat) (m : Mm.Gr) (g' : Nat) (n : Mm.Gr) (W : World) : Prop where
  st : St w g m W
  other : MatAt W g' n 28
theorem S2.below {w W W' : World} {g g' : Nat} {m n : Mm.Gr} (h : S2 w g m g' n W) (hb : Below W.heap.size W W') : S2 w g m g' n W' := ⟨h.st.below hb, h.other.below hb⟩
theorem S2.drew {w W : World} {g g' : Nat} {m n : Mm.Gr} (h : S2 w g m g' n W) : S2 w g m g' n W.drew := h.below (below_drew W)
/-- two other graphs beside it. -/
structure S3 (w : World) (g : Nat) (m : Mm.Gr) (g' : Nat) (n : Mm.Gr) (g'' : Nat) (n' : Mm.Gr) (W : World) : Prop where
  st : St w g m W
  two : MatAt W g' n 28
  three : MatAt W g'' n' 28
theorem S3.below {w W W' : World} {g g' g'' : Nat} {m n n' : Mm.Gr} (h : S3 w g m g' n g'' n' W) (hb : Below W.heap.size W W') : S3 w g m g' n g'' n' W' := ⟨h.st.below hb, h.two.below hb, h.three.below hb⟩
theorem S3.drew {w W : World} {g g' g'' : Nat} {m n n' : Mm.Gr} (h : S3 w g m g' n g'' n' W) : S3 w g m g' n g'' n' W.drew := h.below (below_drew W)
end Go.Proofs.YtjciikdhjgekgaaDoor
