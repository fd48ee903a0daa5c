/-
  The frame that the statements of this seat share: how a row of events that came in is opened.
-/
import Derived.Test.YtaonepbongbhoaaRows
import Derived.Test.YtaonepbongbhoaaChecked
import Derived.Test.YtaonepbongbhoaaKW
import Derived.WalkKit
import Derived.ProofKit
import Derived.OpenShut
import Derived.ShutString
import Derived.ChangeOld
import Derived.Below
import Derived.Carry
import Derived.Lib.SmallJoins
import Derived.Deep.DeepHandedRow
import Derived.Deep.Slices
import Derived.Laws.Cover2
namespace Go.Proofs.Ytaonepbongbhoaa.Hi
open Go.ChangeShapes Go.WideShapes Go.ChangeAt Go.RowKit
open Tx (i64p)
end Go.Proofs.Ytaonepbongbhoaa.Hi
namespace Go.Proofs.Ytaonepbongbhoaa
theorem own : ownKnob Try.prog.godebug = none := by kernel_rfl
theorem laidOut : laidOutB Try.prog = true := by kernel_rfl
end Go.Proofs.Ytaonepbongbhoaa
namespace Go.Proofs.Ytaonepbongbhoaa.Hi
open Go.ChangeShapes Go.WideShapes Go.ChangeAt Go.RowKit
open Tx (i64p)
section
variable {H : Type} {enc : TypeId × Value → H} {w : World} {base : Nat} {spare : Nat → Bool} {held : Bool}
theorem list2 {α : Type} {l : List α} (h : l.length = 2) : ∃ a b, l = [a, b] := by
  match l, h with
  | [a, b], _ => exact ⟨a, b, rfl⟩
theorem list3 {α : Type} {l : List α} (h : l.length = 3) : ∃ a b c, l = [a, b, c] := by
  match l, h with
  | [a, b, c], _ => exact ⟨a, b, c, rfl⟩
theorem list4 {α : Type} {l : List α} (h : l.length = 4) : ∃ a b c d, l = [a, b, c, d] := by
  match l, h with
  | [a, b, c, d], _ => exact ⟨a, b, c, d, rfl⟩
theorem list5 {α : Type} {l : List α} (h : l.length = 5) : ∃ a b c d e, l = [a, b, c, d, e] := by
  match l, h with
  | [a, b, c, d, e], _ => exact ⟨a, b, c, d, e, rfl⟩
theorem cInt : Try.prog.cellsOf 3 = 1 := by kernel_rfl
theorem cI64 : Try.prog.cellsOf 2 = 1 := by kernel_rfl
theorem cBool : Try.prog.cellsOf 4 = 1 := by kernel_rfl
theorem cVal : Try.prog.cellsOf 55 = 2 := by kernel_rfl
theorem cEv : Try.prog.cellsOf 57 = 5 := by kernel_rfl
/-- a value that came in, as part of a struct: two whole numbers. -/
theorem val_cells {n : Nat} {v0 v1 : Value} {D : DataW H × List MemPlace} (h : DataW.trod enc Try.prog w base spare held n 55 [v0, v1] = some D) : ∃ k m : Int, v0 = .int .i64 k ∧ v1 = .int .i64 m ∧ i64p k ∧ i64p m := by
  obtain ⟨xs, k, hk, hxy, _, hxl, hf⟩ := DataW.trod_struct Try.underlying55 h
  obtain ⟨y0, y1, rfl⟩ := list2 (l := xs) (by simpa using hxl)
  have g0 := hf 0 _ rfl
  have g1 := hf 1 _ rfl
  simp [cInt, cI64] at g0 g1
  obtain ⟨z0, q0, _, w0⟩ := DataW.trod_int Try.underlying3 g0
  obtain ⟨z1, q1, _, w1⟩ := DataW.trod_int Try.underlying2 g1
  exact ⟨z0, z1, by simpa using q0, by simpa using q1, bounds_i64 w0, bounds_i64 w1⟩
theorem ev_vals {n : Nat} {v0 v1 v2 v3 v4 : Value} {D : DataW H × List MemPlace} (h : DataW.trod enc Try.prog w base spare held n 57 [v0, v1, v2, v3, v4] = some D) : ∃ e : Ev, e.ok ∧ v0 = .int .i64 e.kd ∧ v1 = .int .i64 e.id ∧ v2 = .int .i64 e.x ∧ v3 = .int .i64 e.k ∧ v4 = .int .i64 e.n := by
  obtain ⟨xs, k, hk, hxy, _, hxl, hf⟩ := DataW.trod_struct Try.underlying57 h
  obtain ⟨y0, y1, y2, y3, rfl⟩ := list4 (l := xs) (by simpa using hxl)
  have g0 := hf 0 _ rfl
  have g1 := hf 1 _ rfl
  have g2 := hf 2 _ rfl
  have g3 := hf 3 _ rfl
  simp [cInt, cVal] at g0 g1 g2 g3
  obtain ⟨z0, q0, _, w0⟩ := DataW.trod_int Try.underlying3 g0
  obtain ⟨z1, q1, _, w1⟩ := DataW.trod_int Try.underlying3 g1
  obtain ⟨z2, q2, _, w2⟩ := DataW.trod_int Try.underlying3 g2
  obtain ⟨z3, z4, q3, q4, w3, w4⟩ := val_cells g3
  exact ⟨⟨z0, z1, z2, z3, z4⟩, ⟨bounds_i64 w0, bounds_i64 w1, bounds_i64 w2, w3, w4⟩, by simpa using q0, by simpa using q1, by simpa using q2, q3, q4⟩
theorem ev_cells {a : Addr} {i n : Nat} {cs : List Value} {D : DataW H × List MemPlace} (h1 : w.cells? base (a.add (i * Try.prog.cellsOf 57)) (Try.prog.cellsOf 57) = some cs) (h2 : DataW.trod enc Try.prog w base spare held n 57 cs = some D) :
    ∃ x : Ev, x.ok ∧ ∀ q u, (encE.cells x)[q]? = some u → w.cell? (a.add (i * 5 + q)) = some u := by
  rw [cEv] at h1
  obtain ⟨_, hlen, hcell⟩ := World.cells?_some h1
  obtain ⟨v0, v1, v2, v3, v4, rfl⟩ := list5 hlen
  obtain ⟨e, b, rfl, rfl, rfl, rfl, rfl⟩ := ev_vals h2
  refine ⟨e, b, fun q u hu => ?_⟩
  have hq : q < 5 := by have := (List.getElem?_eq_some_iff.1 hu).1; simpa using this
  have := hcell q hq
  rw [Go.Deep.add_add] at this
  rw [this, ← hu]
theorem open_evs' {fuel : Nat} {a : Option Addr} {n c : Nat} {x : DataW H × List MemPlace} (hf : DataW.trod enc Try.prog w base spare held fuel 22 [.slice a n c] = some x) : ∃ l, EvArg w a n c l := by
  rcases Go.Deep.open_slice Try.underlying22 hf with ⟨hcs, _⟩ | ⟨ad, len, cap, m, k, D, Pl, hcs, _, hl, hm, hmm, _, hx⟩
  · simp at hcs
    obtain ⟨rfl, rfl, rfl⟩ := hcs
    exact ⟨[], rfl, Nat.le_refl _, by unfold maxLen; omega, Rn.At.nil _ _, by simp⟩
  · simp at hcs
    obtain ⟨rfl, rfl, rfl⟩ := hcs
    have hlm : n ≤ m := by rw [hmm]; split <;> omega
    have each : ∀ i, ∃ x : Ev, i < n → x.ok ∧ ∀ q u, (encE.cells x)[q]? = some u → w.cell? (ad.add (i * 5 + q)) = some u := by
      intro i
      by_cases hi : i < n
      · obtain ⟨cs', h1, h2⟩ := hx i (by omega)
        obtain ⟨x, hx⟩ := ev_cells h1 h2
        exact ⟨x, fun _ => hx⟩
      · exact ⟨⟨0, 0, 0, 0, 0⟩, fun h => absurd h hi⟩
    refine ⟨(List.range n).map fun i => Classical.choose (each i), by simp, hl, hm, ⟨fun _ => ⟨ad, rfl, fun j u hu => ?_⟩⟩, fun v hv => ?_⟩
    · have hj := (List.getElem?_eq_some_iff.1 hu).1
      rw [Rn.flat_len] at hj
      simp at hj
      have hlt : j / 5 < n := by omega
      have hat : ((List.range n).map fun i => Classical.choose (each i))[j / 5]? = some (Classical.choose (each (j / 5))) := by simp [hlt]
      have e := Rn.flat_at (E := encE) hat (j % 5) (Nat.mod_lt _ (by decide))
      have ej : j / 5 * 5 + j % 5 = j := by omega
      rw [ej] at e
      have := (Classical.choose_spec (each (j / 5)) hlt).2 (j % 5) u (by rw [← e]; exact hu)
      rwa [ej] at this
    · obtain ⟨i, hi, rfl⟩ := List.mem_map.1 hv
      exact (Classical.choose_spec (each i) (List.mem_range.1 hi)).1
theorem open_evs {a : Option Addr} {n c : Nat} {d : DataW H} {p : List MemPlace} (h : DataW.Trod enc Try.prog w base spare held 22 (.slice a n c) d p) : ∃ l, EvArg w a n c l := by
  obtain ⟨fuel, hf⟩ := h
  exact open_evs' (by simpa [Value.cells] using hf)
end
end Go.Proofs.Ytaonepbongbhoaa.Hi
