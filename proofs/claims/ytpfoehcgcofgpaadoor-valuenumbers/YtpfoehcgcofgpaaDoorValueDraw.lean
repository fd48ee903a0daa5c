/-
  Laws for regions that draw their order, over values of two cells.
-/
import Derived.Test.YtpfoehcgcofgpaaDoorValueAlive
import Derived.Deep.RegionWith
import Derived.Deep.RegionHeld3
import Derived.Deep.CutRange
import Derived.Deep.DeepCutAuto
namespace Go.Proofs.YtpfoehcgcofgpaaDoor
open Go.RowKit
/-- a value laid into its slot, in one. -/
theorem put_laws : (∀ (a : Act) (d : Nat) (v : Value), a.put (some d) v = { a with tmps := a.tmps.setIfInBounds d v }) ∧ (∀ (l : List Value) (i : Nat) (v : Value), l.toArray.setIfInBounds i v = (l.set i v).toArray) ∧
    (∀ (x y : Value) (l : List Value), (x :: l).set 0 y = y :: l) ∧ (∀ (x y : Value) (l : List Value) (n : Nat), (x :: l).set (n + 1) y = x :: l.set n y) :=
  ⟨fun _ _ _ => rfl, fun _ _ _ => by simp, fun _ _ _ => rfl, fun _ _ _ _ => rfl⟩
theorem yields_val {ops : Array Oper} {S : World → Prop} {op : Oper} {a : Act} (hw : Region.wanted op (yielded ops a.tmps) = true) (ty : TypeId) (x : Operand) (ho : op.op = .load ty x)
    (b : Nat) (hx : a.eval x = .pointer (some ⟨b, 0, none⟩)) (t : TypeId) (k n : Int) {fs : _} (hS : ∀ w, S w → ValAt w b t k n)
    (hu : Tryd.prog.underlying ty = some (.struct fs)) (hi : (Tryd.prog.info? ty).map (·.size) = some 2) : YieldsIf Tryd.prog ops S op (.agg #[.int .i64 k, .int .i64 n]) a :=
  .inl ⟨hw, fun w hw' => by
    unfold execOp
    simp only [ho, hx, Instr.loadAt, Instr.sureAddr, Sem.run_bind, Sem.run_pure, Result.andThen_ok, run_loadVar_row w b t ty #[.int .i64 k, .int .i64 n] (0, 0) _ (hS w hw').is hu rfl hi]⟩
theorem take_at {ops : Array Oper} {Q : Exit → Act → World → Prop} {md : Region.Mode} {S : World → Prop} (i d : Nat) (v : Value) {oi : Oper} {fuel : Nat} {listed : Array Bool} {a : Act} {w : World} (hi : ops[i]? = some oi) (hd : oi.dst = some d)
    (hs : Region.noSelect ops = true) (hf : Region.free md ops listed i = true) (hr : (Region.ready md ops listed).contains i = true)
    (hQ : ∀ c a w, Q (.panic c) (a.put oi.dst v) w → Q (.panic c) a w) (hy : YieldsIf Tryd.prog ops S oi v a) (hS : S w)
    (h : wpAnyH Tryd.prog md ops Q S fuel (listed.setIfInBounds i true) (a.put (some d) v) w) : wpAnyH Tryd.prog md ops Q S (fuel + 1) listed a w :=
  wpAnyH_take hi hs hf hr hQ hy hS (by rw [hd]; exact h)
theorem region_start {id : Nat} {ops : Array Oper} {Q : Exit → Act → World → Prop} {S : World → Prop} {a : Act} {w : World} (n : Nat) (hn : ops.size = n) (hm : Tryd.prog.follows .mixedOrders = true) (hS : S w.drew)
    (h : S w.drew → wpAnyH Tryd.prog .any ops Q S n (Array.replicate n false) a w.drew) : (Code.region id ops true).wp Tryd.prog Q a w := by
  subst hn
  exact wp_region_held_drew hm hS h
theorem below_drew (W : World) : Below W.heap.size W W.drew := (Below.refl _ _).drew
theorem ValAt.other {w : World} {b g : Nat} {t : TypeId} {k n : Int} (h : ValAt w b t k n) (hne : b ≠ g) (x y : Value) : ValAt ((w.setCell ⟨g, 0, none⟩ x).setCell ⟨g, 1, none⟩ y) b t k n :=
  ⟨by rw [Below.heap_setCell _ _ _ _ hne, Below.heap_setCell _ _ _ _ hne]; exact h.is⟩
end Go.Proofs.YtpfoehcgcofgpaaDoor
