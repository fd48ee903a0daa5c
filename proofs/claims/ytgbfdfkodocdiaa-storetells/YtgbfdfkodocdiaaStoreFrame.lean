/-
  The frame that the statements of this seat share: how a slice of variables, and what is put, that came in are opened.
-/
import Derived.Test.YtgbfdfkodocdiaaRows
import Derived.Test.YtgbfdfkodocdiaaChecked
import Derived.Test.YtgbfdfkodocdiaaStoreLaw
import Derived.WalkKit
import Derived.ProofKit
import Derived.OpenShut
import Derived.ShutString
import Derived.ChangeOld
import Derived.Below
import Derived.Carry
import Derived.Lib.SmallJoins
import Derived.Deep.DeepHandedRow
import Derived.Deep.Slices
import Derived.Laws.Cover2
namespace Go.Proofs.Ytgbfdfkodocdiaa
open Go.ChangeShapes Go.WideShapes Go.ChangeAt Go.RowKit St
theorem own : ownKnob Try.prog.godebug = none := by kernel_rfl
theorem laidOut : laidOutB Try.prog = true := by kernel_rfl
section
variable {H : Type} {enc : TypeId × Value → H} {w : World} {base : Nat} {spare : Nat → Bool} {held : Bool}
theorem list2 {α : Type} {l : List α} (h : l.length = 2) : ∃ a b, l = [a, b] := by
  match l, h with
  | [a, b], _ => exact ⟨a, b, rfl⟩
theorem list4 {α : Type} {l : List α} (h : l.length = 4) : ∃ a b c d, l = [a, b, c, d] := by
  match l, h with
  | [a, b, c, d], _ => exact ⟨a, b, c, d, rfl⟩
theorem list5 {α : Type} {l : List α} (h : l.length = 5) : ∃ a b c d e, l = [a, b, c, d, e] := by
  match l, h with
  | [a, b, c, d, e], _ => exact ⟨a, b, c, d, e, rfl⟩
theorem cInt : Try.prog.cellsOf 3 = 1 := by kernel_rfl
theorem cI64 : Try.prog.cellsOf 2 = 1 := by kernel_rfl
theorem cU64 : Try.prog.cellsOf 32 = 1 := by kernel_rfl
theorem cVal : Try.prog.cellsOf 24 = 2 := by kernel_rfl
theorem cVar : Try.prog.cellsOf 40 = 5 := by kernel_rfl
theorem cPut : Try.prog.cellsOf 26 = 5 := by kernel_rfl
/-- a value that came in, as part of a struct: two whole numbers. -/
theorem val_cells {n : Nat} {v0 v1 : Value} {D : DataW H × List MemPlace} (h : DataW.trod enc Try.prog w base spare held n 24 [v0, v1] = some D) : ∃ k m : Int, v0 = .int .i64 k ∧ v1 = .int .i64 m ∧ i64p k ∧ i64p m := by
  obtain ⟨xs, k, hk, hxy, _, hxl, hf⟩ := DataW.trod_struct Try.underlying24 h
  obtain ⟨y0, y1, rfl⟩ := list2 (l := xs) (by simpa using hxl)
  have g0 := hf 0 _ rfl
  have g1 := hf 1 _ rfl
  simp [cInt, cI64] at g0 g1
  obtain ⟨z0, q0, _, w0⟩ := DataW.trod_int Try.underlying3 g0
  obtain ⟨z1, q1, _, w1⟩ := DataW.trod_int Try.underlying2 g1
  exact ⟨z0, z1, by simpa using q0, by simpa using q1, bounds_i64 w0, bounds_i64 w1⟩
theorem var_cells {a : Addr} {i n : Nat} {cs : List Value} {D : DataW H × List MemPlace} (h1 : w.cells? base (a.add (i * Try.prog.cellsOf 40)) (Try.prog.cellsOf 40) = some cs) (h2 : DataW.trod enc Try.prog w base spare held n 40 cs = some D) :
    ∃ x : Vr, x.ok ∧ ∀ q u, (cellsOf x)[q]? = some u → w.cell? (a.add (i * 5 + q)) = some u := by
  rw [cVar] at h1
  obtain ⟨_, hlen, hcell⟩ := World.cells?_some h1
  obtain ⟨xs, k, hk, hxy, _, hxl, hf⟩ := DataW.trod_struct Try.underlying40 h2
  obtain ⟨y0, y1, y2, y3, rfl⟩ := list4 (l := xs) (by simpa using hxl)
  obtain ⟨v0, v1, v2, v3, v4, rfl⟩ := list5 hlen
  have g0 := hf 0 _ rfl
  have g1 := hf 1 _ rfl
  have g2 := hf 2 _ rfl
  have g3 := hf 3 _ rfl
  simp [cInt, cU64, cVal] at g0 g1 g2 g3
  obtain ⟨z0, z1, rfl, rfl, b0, b1⟩ := val_cells g0
  obtain ⟨z2, q2, _, w2⟩ := DataW.trod_int Try.underlying3 g1
  obtain ⟨z3, q3, _, w3⟩ := DataW.trod_int Try.underlying3 g2
  obtain ⟨z4, q4, _, w4⟩ := DataW.trod_int Try.underlying32 g3
  have q2 : v2 = .int .i64 z2 := by simpa using q2
  have q3 : v3 = .int .i64 z3 := by simpa using q3
  have q4 : v4 = .int .u64 z4 := by simpa using q4
  subst q2; subst q3; subst q4
  have b4 := bounds_u64 w4
  refine ⟨⟨z0, z1, z2, z3, z4.toNat⟩, ⟨b0, b1, bounds_i64 w2, bounds_i64 w3, show z4.toNat < 18446744073709551616 by omega⟩, fun q u hu => ?_⟩
  have e4 : ((z4.toNat : Nat) : Int) = z4 := Int.toNat_of_nonneg b4.1
  have hq : q < 5 := by have := (List.getElem?_eq_some_iff.1 hu).1; simpa [cellsOf] using this
  have := hcell q hq
  rw [Go.Deep.add_add] at this
  rw [this, ← hu]
  simp only [cellsOf, e4]
theorem open_store' {fuel : Nat} {a : Option Addr} {n c : Nat} {x : DataW H × List MemPlace} (hf : DataW.trod enc Try.prog w base spare held fuel 22 [.slice a n c] = some x) : ∃ l, StoreArg w a n c l := by
  rcases Go.Deep.open_slice Try.underlying22 hf with ⟨hcs, _⟩ | ⟨ad, len, cap, m, k, D, Pl, hcs, _, hl, hm, hmm, _, hx⟩
  · simp at hcs
    obtain ⟨rfl, rfl, rfl⟩ := hcs
    exact ⟨[], rfl, Nat.le_refl _, by unfold maxLen; omega, VarsAt.none_ _ _⟩
  · simp at hcs
    obtain ⟨rfl, rfl, rfl⟩ := hcs
    have hlm : n ≤ m := by rw [hmm]; split <;> omega
    have each : ∀ i, ∃ x : Vr, i < n → x.ok ∧ ∀ q u, (cellsOf x)[q]? = some u → w.cell? (ad.add (i * 5 + q)) = some u := by
      intro i
      by_cases hi : i < n
      · obtain ⟨cs', h1, h2⟩ := hx i (by omega)
        obtain ⟨x, hx⟩ := var_cells h1 h2
        exact ⟨x, fun _ => hx⟩
      · exact ⟨zero, fun h => absurd h hi⟩
    refine ⟨(List.range n).map fun i => Classical.choose (each i), by simp, hl, hm, fun _ => ⟨ad, rfl, fun j u hu => ?_⟩, fun v hv => ?_⟩
    · have hj := (List.getElem?_eq_some_iff.1 hu).1
      rw [flat_len] at hj
      simp at hj
      have hlt : j / 5 < n := by omega
      have hat : ((List.range n).map fun i => Classical.choose (each i))[j / 5]? = some (Classical.choose (each (j / 5))) := by simp [hlt]
      have e := flat_at hat (j % 5) (Nat.mod_lt _ (by decide))
      have ej : j / 5 * 5 + j % 5 = j := by omega
      rw [ej] at e
      have := (Classical.choose_spec (each (j / 5)) hlt).2 (j % 5) u (by rw [← e]; exact hu)
      rwa [ej] at this
    · obtain ⟨i, hi, rfl⟩ := List.mem_map.1 hv
      exact (Classical.choose_spec (each i) (List.mem_range.1 hi)).1
theorem open_store {a : Option Addr} {n c : Nat} {d : DataW H} {p : List MemPlace} (h : DataW.Trod enc Try.prog w base spare held 22 (.slice a n c) d p) : ∃ l, StoreArg w a n c l := by
  obtain ⟨fuel, hf⟩ := h
  exact open_store' (by simpa [Value.cells] using hf)
theorem open_put {r : Reach} {b0 : Nat} {v : Value} {d : DataW H} {p : List MemPlace} (hv : Value.okWide Try.prog w r b0 26 v) (h : DataW.Trod enc Try.prog w base spare held 26 v d p) :
    ∃ x ver wr k n : Int, v = .agg #[.int .i64 x, .int .i64 ver, .int .i64 wr, .int .i64 k, .int .i64 n] ∧ i64p x ∧ i64p ver ∧ i64p wr ∧ i64p k ∧ i64p n := by
  obtain ⟨cs, rfl, hsz⟩ := okWide_struct Try.underlying26 hv
  obtain ⟨l⟩ := cs
  obtain ⟨v0, v1, v2, v3, v4, rfl⟩ := list5 (l := l) (hsz.trans cPut)
  obtain ⟨fuel, hf⟩ := h
  obtain ⟨xs, m, _, _, _, hlen, hg⟩ := DataW.trod_struct Try.underlying26 hf
  obtain ⟨y0, y1, y2, y3, rfl⟩ := list4 (l := xs) (by simpa using hlen)
  have g0 := hg 0 _ rfl
  have g1 := hg 1 _ rfl
  have g2 := hg 2 _ rfl
  have g3 := hg 3 _ rfl
  simp [cInt, cVal, Value.cells] at g0 g1 g2 g3
  obtain ⟨z0, q0, _, w0⟩ := DataW.trod_int Try.underlying3 g0
  obtain ⟨z1, q1, _, w1⟩ := DataW.trod_int Try.underlying3 g1
  obtain ⟨z2, q2, _, w2⟩ := DataW.trod_int Try.underlying3 g2
  obtain ⟨z3, z4, rfl, rfl, b3, b4⟩ := val_cells g3
  have q0 : v0 = .int .i64 z0 := by simpa using q0
  have q1 : v1 = .int .i64 z1 := by simpa using q1
  have q2 : v2 = .int .i64 z2 := by simpa using q2
  subst q0; subst q1; subst q2
  exact ⟨z0, z1, z2, z3, z4, rfl, bounds_i64 w0, bounds_i64 w1, bounds_i64 w2, b3, b4⟩
end
end Go.Proofs.Ytgbfdfkodocdiaa
