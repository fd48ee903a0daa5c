/-
  Variables and what the calls of layer 7 make of a store, in plain mathematics: no program in it.
-/
import Derived.Test.YtgbfdfkodocdiaaSetMath
namespace Go.Proofs.Ytgbfdfkodocdiaa
namespace St
def i64p (n : Int) : Prop := -9223372036854775808 ≤ n ∧ n ≤ 9223372036854775807
/-- a variable: what it has (kind, number), since when, from whom, who read that. -/
structure Vr where
  k : Int
  n : Int
  ver : Int
  wr : Int
  m : Nat
def Vr.ok (v : Vr) : Prop := i64p v.k ∧ i64p v.n ∧ i64p v.ver ∧ i64p v.wr ∧ v.m < 18446744073709551616
def right (k n : Int) : Bool := if k = 0 then decide (n = 0) else if k = 1 then true else if k = 2 then decide (0 ≤ n) && decide (n < 64) else false
def zero : Vr := ⟨0, 0, 0, 0, 0⟩
def fresh : Vr := ⟨1, 0, 0, -1, 0⟩
theorem zero_ok : zero.ok := by refine ⟨⟨?_, ?_⟩, ⟨?_, ?_⟩, ⟨?_, ?_⟩, ⟨?_, ?_⟩, ?_⟩ <;> decide
theorem fresh_ok : fresh.ok := by refine ⟨⟨?_, ?_⟩, ⟨?_, ?_⟩, ⟨?_, ?_⟩, ⟨?_, ?_⟩, ?_⟩ <;> decide
/-- with a slot among the readers. -/
def mk (s : Int) (v : Vr) : Vr := ⟨v.k, v.n, v.ver, v.wr, Sm.add v.m s⟩
/-- without the slot. -/
def dr (s : Int) (v : Vr) : Vr := ⟨v.k, v.n, v.ver, if v.wr = s then -1 else v.wr, Sm.less v.m s⟩
theorem mk_ok {v : Vr} (h : v.ok) (s : Int) : (mk s v).ok := ⟨h.1, h.2.1, h.2.2.1, h.2.2.2.1, Sm.add_lt s h.2.2.2.2⟩
theorem dr_ok {v : Vr} (h : v.ok) (s : Int) : (dr s v).ok := by
  refine ⟨h.1, h.2.1, h.2.2.1, ?_, Sm.less_lt s h.2.2.2.2⟩
  show i64p (if v.wr = s then -1 else v.wr)
  split
  · unfold i64p; omega
  · exact h.2.2.2.1
def has (L : List Vr) (x : Int) : Prop := 0 ≤ x ∧ x < (L.length : Int)
instance (L : List Vr) (x : Int) : Decidable (has L x) := by unfold has; infer_instance
def slot (s : Int) : Prop := 0 ≤ s ∧ s < 32
instance (s : Int) : Decidable (slot s) := by unfold slot; infer_instance
def at_ (L : List Vr) (x : Int) : Vr := L.getD x.toNat zero
def getV (L : List Vr) (x : Int) : Vr := if has L x then at_ L x else zero
def getE (L : List Vr) (x : Int) : Int := if has L x then 0 else 3
def putE (L : List Vr) (x k n wr : Int) : Int := if has L x then (if right k n = true ∧ (wr = -1 ∨ slot wr) then 0 else 2) else 3
def putL (L : List Vr) (x k n ver wr : Int) : List Vr := if putE L x k n wr = 0 then L.set x.toNat ⟨k, n, ver, wr, 0⟩ else L
def markE (L : List Vr) (x s : Int) : Int := if has L x then (if slot s then 0 else 2) else 3
def markL (L : List Vr) (x s : Int) : List Vr := if markE L x s = 0 then L.set x.toNat (mk s (at_ L x)) else L
def dropL (L : List Vr) (s : Int) : List Vr := L.map (dr s)
def newIs (n : Int) : Bool := decide (0 ≤ n) && decide (n ≤ 64)
def newL (n : Int) : List Vr := if newIs n = true then List.replicate n.toNat fresh else []
theorem take_step {α : Type} {l : List α} {k : Nat} {z : α} (h : l[k]? = some z) : l.take (k + 1) = l.take k ++ [z] := by
  obtain ⟨hl, rfl⟩ := List.getElem?_eq_some_iff.1 h
  exact List.take_succ_eq_append_getElem hl
theorem at_mem {L : List Vr} {x : Int} (h : has L x) : L[x.toNat]? = some (at_ L x) := by
  unfold at_ has at *
  have : x.toNat < L.length := by omega
  simp [List.getD, List.getElem?_eq_getElem this]
end St
end Go.Proofs.Ytgbfdfkodocdiaa
