/-
  The frame that the statements of this seat share: how a slice of values, and a slice of entries, that came in are opened.
-/
import Derived.Test.YtkbgnapbhboplaaRows
import Derived.Test.YtkbgnapbhboplaaChecked
import Derived.Test.YtkbgnapbhboplaaRepLaw
import Derived.WalkKit
import Derived.ProofKit
import Derived.OpenShut
import Derived.ShutString
import Derived.ChangeOld
import Derived.Below
import Derived.Carry
import Derived.Lib.SmallJoins
import Derived.Deep.DeepHandedRow
import Derived.Deep.Slices
import Derived.Laws.Cover2
namespace Go.Proofs.Ytkbgnapbhboplaa.Rp
open Go.ChangeShapes Go.WideShapes Go.ChangeAt Go.RowKit Tx
end Go.Proofs.Ytkbgnapbhboplaa.Rp
namespace Go.Proofs.Ytkbgnapbhboplaa
theorem own : ownKnob Try.prog.godebug = none := by kernel_rfl
theorem laidOut : laidOutB Try.prog = true := by kernel_rfl
end Go.Proofs.Ytkbgnapbhboplaa
namespace Go.Proofs.Ytkbgnapbhboplaa.Rp
open Go.ChangeShapes Go.WideShapes Go.ChangeAt Go.RowKit Tx
section
variable {H : Type} {enc : TypeId × Value → H} {w : World} {base : Nat} {spare : Nat → Bool} {held : Bool}
theorem list2 {α : Type} {l : List α} (h : l.length = 2) : ∃ a b, l = [a, b] := by
  match l, h with
  | [a, b], _ => exact ⟨a, b, rfl⟩
theorem list3 {α : Type} {l : List α} (h : l.length = 3) : ∃ a b c, l = [a, b, c] := by
  match l, h with
  | [a, b, c], _ => exact ⟨a, b, c, rfl⟩
theorem list4 {α : Type} {l : List α} (h : l.length = 4) : ∃ a b c d, l = [a, b, c, d] := by
  match l, h with
  | [a, b, c, d], _ => exact ⟨a, b, c, d, rfl⟩
theorem list5 {α : Type} {l : List α} (h : l.length = 5) : ∃ a b c d e, l = [a, b, c, d, e] := by
  match l, h with
  | [a, b, c, d, e], _ => exact ⟨a, b, c, d, e, rfl⟩
theorem cInt : Try.prog.cellsOf 3 = 1 := by kernel_rfl
theorem cI64 : Try.prog.cellsOf 2 = 1 := by kernel_rfl
theorem cBool : Try.prog.cellsOf 4 = 1 := by kernel_rfl
theorem cVal : Try.prog.cellsOf 63 = 2 := by kernel_rfl
theorem cStep : Try.prog.cellsOf 67 = 4 := by kernel_rfl
theorem cSteps : Try.prog.cellsOf 34 = 1 := by kernel_rfl
theorem cEnt : Try.prog.cellsOf 36 = 5 := by kernel_rfl
/-- a value that came in, as part of a struct: two whole numbers. -/
theorem val_cells {n : Nat} {v0 v1 : Value} {D : DataW H × List MemPlace} (h : DataW.trod enc Try.prog w base spare held n 63 [v0, v1] = some D) : ∃ k m : Int, v0 = .int .i64 k ∧ v1 = .int .i64 m ∧ i64p k ∧ i64p m := by
  obtain ⟨xs, k, hk, hxy, _, hxl, hf⟩ := DataW.trod_struct Try.underlying63 h
  obtain ⟨y0, y1, rfl⟩ := list2 (l := xs) (by simpa using hxl)
  have g0 := hf 0 _ rfl
  have g1 := hf 1 _ rfl
  simp [cInt, cI64] at g0 g1
  obtain ⟨z0, q0, _, w0⟩ := DataW.trod_int Try.underlying3 g0
  obtain ⟨z1, q1, _, w1⟩ := DataW.trod_int Try.underlying2 g1
  exact ⟨z0, z1, by simpa using q0, by simpa using q1, bounds_i64 w0, bounds_i64 w1⟩
/-- a step that came in. -/
theorem step_vals {n : Nat} {v0 v1 v2 v3 : Value} {D : DataW H × List MemPlace} (h : DataW.trod enc Try.prog w base spare held n 67 [v0, v1, v2, v3] = some D) : ∃ s : Sp, s.ok ∧ v0 = .int .i64 s.x ∧ v1 = .int .i64 s.k ∧ v2 = .int .i64 s.n ∧ v3 = .bool s.wr := by
  obtain ⟨xs, k, hk, hxy, _, hxl, hf⟩ := DataW.trod_struct Try.underlying67 h
  obtain ⟨y0, y1, y2, rfl⟩ := list3 (l := xs) (by simpa using hxl)
  have g0 := hf 0 _ rfl
  have g1 := hf 1 _ rfl
  have g2 := hf 2 _ rfl
  simp [cInt, cBool, cVal] at g0 g1 g2
  obtain ⟨z0, q0, _, w0⟩ := DataW.trod_int Try.underlying3 g0
  obtain ⟨z1, z2, rfl, rfl, b1, b2⟩ := val_cells g1
  obtain ⟨z3, q3, _⟩ := DataW.trod_bool Try.underlying4 g2
  have q0 : v0 = .int .i64 z0 := by simpa using q0
  have q3 : v3 = .bool z3 := by simpa using q3
  subst q0; subst q3
  exact ⟨⟨z0, z1, z2, z3⟩, ⟨bounds_i64 w0, b1, b2⟩, rfl, rfl, rfl, rfl⟩
theorem step_cells {a : Addr} {i n : Nat} {cs : List Value} {D : DataW H × List MemPlace} (h1 : w.cells? base (a.add (i * Try.prog.cellsOf 67)) (Try.prog.cellsOf 67) = some cs) (h2 : DataW.trod enc Try.prog w base spare held n 67 cs = some D) :
    ∃ x : Sp, x.ok ∧ ∀ q u, (cellsOf x)[q]? = some u → w.cell? (a.add (i * 4 + q)) = some u := by
  rw [cStep] at h1
  obtain ⟨_, hlen, hcell⟩ := World.cells?_some h1
  obtain ⟨v0, v1, v2, v3, rfl⟩ := list4 hlen
  obtain ⟨s, hs, rfl, rfl, rfl, rfl⟩ := step_vals h2
  refine ⟨s, hs, fun q u hu => ?_⟩
  have hq : q < 4 := by have := (List.getElem?_eq_some_iff.1 hu).1; simpa [cellsOf] using this
  have := hcell q hq
  rw [Go.Deep.add_add] at this
  rw [this, ← hu]
  rfl
theorem open_steps {fuel : Nat} {v : Value} {x : DataW H × List MemPlace} (hf : DataW.trod enc Try.prog w base spare held fuel 34 [v] = some x) : ∃ A c l, v = .slice A l.length c ∧ SlAt w A c l := by
  rcases Go.Deep.open_slice Try.underlying34 hf with ⟨hcs, _⟩ | ⟨ad, n, c, m, k, D, Pl, hcs, _, hl, hm, hmm, _, hx⟩
  · simp at hcs
    subst hcs
    exact ⟨none, 0, [], rfl, VarsAt.none_ _ _, Nat.le_refl _, by unfold maxLen; omega⟩
  · simp at hcs
    subst hcs
    have hlm : n ≤ m := by rw [hmm]; split <;> omega
    have each : ∀ i, ∃ x : Sp, i < n → x.ok ∧ ∀ q u, (cellsOf x)[q]? = some u → w.cell? (ad.add (i * 4 + q)) = some u := by
      intro i
      by_cases hi : i < n
      · obtain ⟨cs', h1, h2⟩ := hx i (by omega)
        obtain ⟨x, hx⟩ := step_cells h1 h2
        exact ⟨x, fun _ => hx⟩
      · exact ⟨zero, fun h => absurd h hi⟩
    have hL : ((List.range n).map fun i => Classical.choose (each i)).length = n := by simp
    refine ⟨some ad, c, (List.range n).map fun i => Classical.choose (each i), by rw [hL], ⟨fun _ => ⟨ad, rfl, fun j u hu => ?_⟩, fun v hv => ?_⟩, by rw [hL]; exact hl, hm⟩
    · have hj := (List.getElem?_eq_some_iff.1 hu).1
      rw [flat_len] at hj
      simp at hj
      have hlt : j / 4 < n := by omega
      have hat : ((List.range n).map fun i => Classical.choose (each i))[j / 4]? = some (Classical.choose (each (j / 4))) := by simp [hlt]
      have e := flat_at hat (j % 4) (Nat.mod_lt _ (by decide))
      have ej : j / 4 * 4 + j % 4 = j := by omega
      rw [ej] at e
      have := (Classical.choose_spec (each (j / 4)) hlt).2 (j % 4) u (by rw [← e]; exact hu)
      rwa [ej] at this
    · obtain ⟨i, hi, rfl⟩ := List.mem_map.1 hv
      exact (Classical.choose_spec (each i) (List.mem_range.1 hi)).1
theorem ent_cells {a : Addr} {i n : Nat} {cs : List Value} {D : DataW H × List MemPlace} (h1 : w.cells? base (a.add (i * Try.prog.cellsOf 36)) (Try.prog.cellsOf 36) = some cs) (h2 : DataW.trod enc Try.prog w base spare held n 36 cs = some D) :
    ∃ x : Xc, RdX w x ∧ ∀ q u, (encX.cells x)[q]? = some u → w.cell? (a.add (i * 5 + q)) = some u := by
  rw [cEnt] at h1
  obtain ⟨_, hlen, hcell⟩ := World.cells?_some h1
  obtain ⟨v0, v1, v2, v3, v4, rfl⟩ := list5 hlen
  obtain ⟨xs, k, hk, hxy, _, hxl, hf⟩ := DataW.trod_struct Try.underlying36 h2
  obtain ⟨y0, y1, y2, y3, y4, rfl⟩ := list5 (l := xs) (by simpa using hxl)
  have g0 := hf 0 _ rfl
  have g1 := hf 1 _ rfl
  have g2 := hf 2 _ rfl
  have g3 := hf 3 _ rfl
  have g4 := hf 4 _ rfl
  simp [cInt, cBool, cSteps] at g0 g1 g2 g3 g4
  obtain ⟨z0, q0, _, w0⟩ := DataW.trod_int Try.underlying3 g0
  obtain ⟨z1, q1, _⟩ := DataW.trod_bool Try.underlying4 g1
  obtain ⟨z2, q2, _⟩ := DataW.trod_bool Try.underlying4 g2
  obtain ⟨A, c, rd, q3, r3⟩ := open_steps g3
  obtain ⟨B, d, wt, q4, r4⟩ := open_steps g4
  have q0 : v0 = .int .i64 z0 := by simpa using q0
  have q1 : v1 = .bool z1 := by simpa using q1
  have q2 : v2 = .bool z2 := by simpa using q2
  subst q0; subst q1; subst q2; subst q3; subst q4
  refine ⟨⟨⟨z0, z1, z2, rd, wt⟩, A, c, B, d⟩, ⟨r3, r4⟩, fun q u hu => ?_⟩
  have hq : q < 5 := by have := (List.getElem?_eq_some_iff.1 hu).1; simpa using this
  have := hcell q hq
  rw [Go.Deep.add_add] at this
  rw [this, ← hu]
theorem open_ents' {fuel : Nat} {a : Option Addr} {n c : Nat} {x : DataW H × List MemPlace} (hf : DataW.trod enc Try.prog w base spare held fuel 23 [.slice a n c] = some x) : ∃ l, EntArg w a n c l := by
  rcases Go.Deep.open_slice Try.underlying23 hf with ⟨hcs, _⟩ | ⟨ad, len, cap, m, k, D, Pl, hcs, _, hl, hm, hmm, _, hx⟩
  · simp at hcs
    obtain ⟨rfl, rfl, rfl⟩ := hcs
    exact ⟨[], rfl, Nat.le_refl _, by unfold maxLen; omega, Rn.At.nil _ _, by simp, fun _ => rfl⟩
  · simp at hcs
    obtain ⟨rfl, rfl, rfl⟩ := hcs
    have hlm : n ≤ m := by rw [hmm]; split <;> omega
    have each : ∀ i, ∃ x : Xc, i < n → RdX w x ∧ ∀ q u, (encX.cells x)[q]? = some u → w.cell? (ad.add (i * 5 + q)) = some u := by
      intro i
      by_cases hi : i < n
      · obtain ⟨cs', h1, h2⟩ := hx i (by omega)
        obtain ⟨x, hx⟩ := ent_cells h1 h2
        exact ⟨x, fun _ => hx⟩
      · exact ⟨⟨⟨0, false, false, [], []⟩, none, 0, none, 0⟩, fun h => absurd h hi⟩
    refine ⟨(List.range n).map fun i => Classical.choose (each i), by simp, hl, hm, ⟨fun _ => ⟨ad, rfl, fun j u hu => ?_⟩⟩, fun v hv => ?_, fun h => by cases h⟩
    · have hj := (List.getElem?_eq_some_iff.1 hu).1
      rw [Rn.flat_len] at hj
      simp at hj
      have hlt : j / 5 < n := by omega
      have hat : ((List.range n).map fun i => Classical.choose (each i))[j / 5]? = some (Classical.choose (each (j / 5))) := by simp [hlt]
      have e := Rn.flat_at (E := encX) hat (j % 5) (Nat.mod_lt _ (by decide))
      have ej : j / 5 * 5 + j % 5 = j := by omega
      rw [ej] at e
      have := (Classical.choose_spec (each (j / 5)) hlt).2 (j % 5) u (by rw [← e]; exact hu)
      rwa [ej] at this
    · obtain ⟨i, hi, rfl⟩ := List.mem_map.1 hv
      exact (Classical.choose_spec (each i) (List.mem_range.1 hi)).1
theorem open_ents {a : Option Addr} {n c : Nat} {d : DataW H} {p : List MemPlace} (h : DataW.Trod enc Try.prog w base spare held 23 (.slice a n c) d p) : ∃ l, EntArg w a n c l := by
  obtain ⟨fuel, hf⟩ := h
  exact open_ents' (by simpa [Value.cells] using hf)
theorem vp_cells {a : Addr} {i n : Nat} {cs : List Value} {D : DataW H × List MemPlace} (h1 : w.cells? base (a.add (i * Try.prog.cellsOf 63)) (Try.prog.cellsOf 63) = some cs) (h2 : DataW.trod enc Try.prog w base spare held n 63 cs = some D) :
    ∃ x : Vp, (i64p x.1 ∧ i64p x.2) ∧ ∀ q u, (encV.cells x)[q]? = some u → w.cell? (a.add (i * 2 + q)) = some u := by
  rw [cVal] at h1
  obtain ⟨_, hlen, hcell⟩ := World.cells?_some h1
  obtain ⟨v0, v1, rfl⟩ := list2 hlen
  obtain ⟨k, m, rfl, rfl, b1, b2⟩ := val_cells h2
  refine ⟨(k, m), ⟨b1, b2⟩, fun q u hu => ?_⟩
  have hq : q < 2 := by have := (List.getElem?_eq_some_iff.1 hu).1; simpa using this
  have := hcell q hq
  rw [Go.Deep.add_add] at this
  rw [this, ← hu]
theorem open_vals' {fuel : Nat} {a : Option Addr} {n c : Nat} {x : DataW H × List MemPlace} (hf : DataW.trod enc Try.prog w base spare held fuel 22 [.slice a n c] = some x) : ∃ l, ValArg w a n c l := by
  rcases Go.Deep.open_slice Try.underlying22 hf with ⟨hcs, _⟩ | ⟨ad, len, cap, m, k, D, Pl, hcs, _, hl, hm, hmm, _, hx⟩
  · simp at hcs
    obtain ⟨rfl, rfl, rfl⟩ := hcs
    exact ⟨[], rfl, Nat.le_refl _, by unfold maxLen; omega, Rn.At.nil _ _, by simp⟩
  · simp at hcs
    obtain ⟨rfl, rfl, rfl⟩ := hcs
    have hlm : n ≤ m := by rw [hmm]; split <;> omega
    have each : ∀ i, ∃ x : Vp, i < n → (i64p x.1 ∧ i64p x.2) ∧ ∀ q u, (encV.cells x)[q]? = some u → w.cell? (ad.add (i * 2 + q)) = some u := by
      intro i
      by_cases hi : i < n
      · obtain ⟨cs', h1, h2⟩ := hx i (by omega)
        obtain ⟨x, hx⟩ := vp_cells h1 h2
        exact ⟨x, fun _ => hx⟩
      · exact ⟨(0, 0), fun h => absurd h hi⟩
    refine ⟨(List.range n).map fun i => Classical.choose (each i), by simp, hl, hm, ⟨fun _ => ⟨ad, rfl, fun j u hu => ?_⟩⟩, fun v hv => ?_⟩
    · have hj := (List.getElem?_eq_some_iff.1 hu).1
      rw [Rn.flat_len] at hj
      simp at hj
      have hlt : j / 2 < n := by omega
      have hat : ((List.range n).map fun i => Classical.choose (each i))[j / 2]? = some (Classical.choose (each (j / 2))) := by simp [hlt]
      have e := Rn.flat_at (E := encV) hat (j % 2) (Nat.mod_lt _ (by decide))
      have ej : j / 2 * 2 + j % 2 = j := by omega
      rw [ej] at e
      have := (Classical.choose_spec (each (j / 2)) hlt).2 (j % 2) u (by rw [← e]; exact hu)
      rwa [ej] at this
    · obtain ⟨i, hi, rfl⟩ := List.mem_map.1 hv
      exact (Classical.choose_spec (each i) (List.mem_range.1 hi)).1
theorem open_vals {a : Option Addr} {n c : Nat} {d : DataW H} {p : List MemPlace} (h : DataW.Trod enc Try.prog w base spare held 22 (.slice a n c) d p) : ∃ l, ValArg w a n c l := by
  obtain ⟨fuel, hf⟩ := h
  exact open_vals' (by simpa [Value.cells] using hf)
end
end Go.Proofs.Ytkbgnapbhboplaa.Rp
