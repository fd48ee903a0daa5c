/-
  The walk of GraphRefuses.
-/
import Derived.Test.YtfdfiiocccafkaaGreatDoorGraphEmpty
import Derived.Laws.StructEq
namespace Go.Proofs.YtfdfiiocccafkaaGreatDoor.En
open Go.RowKit
attribute [local go_sem ↓] Go.wp_at_zero Go.wp_at_succ
theorem acts_since {w w1 : World} {A : Option Addr} {N c : Nat} {l : Nat → Act} (h : ActsAt w A N c l) (hb : Below w.heap.size w w1) : ActsAt w1 A N c l := ⟨h.1, h.2.1, fun h0 => by
  obtain ⟨ad, e, hc⟩ := h.2.2 h0
  refine ⟨ad, e, fun i hi => ?_⟩
  obtain ⟨h1, h2, h3⟩ := hc i hi
  exact ⟨h1, h2, fun q u hu => (hb.cell (Tx.cell_lt (h3 q u hu))).trans (h3 q u hu)⟩⟩
theorem vals_same {w w' : World} {P : Nat → Prop} {base q n : Nat} {L : List (Int × Int)} (h : Sx.ValsAt w base q n L) (hs : Same P w w') (hp : P q) : Sx.ValsAt w' base q n L :=
  ⟨row_other h.row (fun k e => by
    have e : q = k := Option.some.inj e
    subst e; exact hs.block _ hp), h.len⟩
def RfRel (w0 : World) (n v : Int) (l : Nat → Act) (m b : Nat) (i : Value) (wr : World) : Prop := ∃ k : Nat, k ≤ m ∧ i = .int .i64 k ∧ Live w0 (fun _ => False) b k (k : Nat) (runE n v l k) wr
def CoRel (L : Nat) (W : World) (i : Value) (wr : World) : Prop := ∃ j : Nat, j ≤ L ∧ i = .int .i64 j ∧ Below W.heap.size W wr
end Go.Proofs.YtfdfiiocccafkaaGreatDoor.En
