/-
  The frame that the statements of this seat share: the table that the row lists gives the table's cells; a world that holds it.
-/
import Derived.Test.YtfdfiiocccafkaaGreatDoorCards
import Derived.Test.YtfdfiiocccafkaaGreatDoorTie
import Derived.Test.YtfdfiiocccafkaaGreatDoorJEd
import Derived.WalkKit
import Derived.ProofKit
import Derived.OpenShut
import Derived.ShutString
import Derived.ChangeOld
import Derived.Below
import Derived.Deep.DeepHandedRow
import Derived.Lib.LaidTab
import Derived.Lib.SmallJoins
import Derived.Deep.Slices
namespace Go.Proofs.YtfdfiiocccafkaaGreatDoor
open Go.ChangeShapes Go.WideShapes Go.ChangeAt Go.RowKit
theorem own : ownKnob Tryz.prog.godebug = none := by kernel_rfl
theorem laidOut : laidOutB Tryz.prog = true := by kernel_rfl
theorem gTab : Tryz.prog.globalNamed "math/bits.deBruijn64tab" = some 0 := by kernel_rfl
theorem gTabType : (Tryz.prog.globals[0]?).map (·.type) = some 251 := by kernel_rfl
theorem cellsTab : Tryz.prog.cellsOf 251 = 64 := by kernel_rfl
theorem cellsU8 : Tryz.prog.cellsOf 5 = 1 := by kernel_rfl
def tabInts : List Int := Lib.deBruijn64tab.map fun (k : Nat) => (k : Int)
def tabLaid : List (String × DataW Unit) := [("math/bits.deBruijn64tab", Lib.tabData .u8 tabInts)]
theorem table {W : World} (h : laidMetH Tryz.prog tabLaid W) : TabAt W := by
  have ht : Lib.TabIs Tryz.prog W "math/bits.deBruijn64tab" .u8 tabInts :=
    Lib.tabIs_of_head (rest := []) gTab gTabType Tryz.underlying251 Tryz.underlying5 cellsU8 cellsTab h
  intro j hj
  have := ht.cell gTab j (by simpa [tabInts, Lib.deBruijn64tab] using hj)
  rw [this]
  have hl : j < Lib.deBruijn64tab.length := by simpa [Lib.deBruijn64tab] using hj
  simp [tabInts, List.getD, List.getElem?_map, List.getElem?_eq_getElem hl]
noncomputable def laidWorld (os : Os) : World :=
  { World.holding Tryz.prog os ⟨#[], #[], []⟩ with heap := (World.holding Tryz.prog os ⟨#[], #[], []⟩).heap.modify 0 fun
      | .cells _ t frozen => .cells (tabInts.map fun z => Value.int .u8 z).toArray t frozen
      | o => o }
section
variable {H : Type} {enc : TypeId × Value → H} {w : World} {base : Nat} {spare : Nat → Bool} {held : Bool}
theorem list2 {α : Type} {l : List α} (h : l.length = 2) : ∃ a b, l = [a, b] := by
  match l, h with
  | [a, b], _ => exact ⟨a, b, rfl⟩
theorem list4 {α : Type} {l : List α} (h : l.length = 4) : ∃ a b c d, l = [a, b, c, d] := by
  match l, h with
  | [a, b, c, d], _ => exact ⟨a, b, c, d, rfl⟩
theorem list5 {α : Type} {l : List α} (h : l.length = 5) : ∃ a b c d e, l = [a, b, c, d, e] := by
  match l, h with
  | [a, b, c, d, e], _ => exact ⟨a, b, c, d, e, rfl⟩
theorem cInt : Tryz.prog.cellsOf 3 = 1 := by kernel_rfl
theorem cI64 : Tryz.prog.cellsOf 2 = 1 := by kernel_rfl
theorem cVal : Tryz.prog.cellsOf 27 = 2 := by kernel_rfl
/-- a value that came in, as part of a struct: two whole numbers. -/
theorem val_cells {n : Nat} {v0 v1 : Value} {D : DataW H × List MemPlace} (h : DataW.trod enc Tryz.prog w base spare held n 27 [v0, v1] = some D) : ∃ k m : Int, v0 = .int .i64 k ∧ v1 = .int .i64 m ∧ St.i64p k ∧ St.i64p m := by
  obtain ⟨xs, k, hk, hxy, _, hxl, hf⟩ := DataW.trod_struct Tryz.underlying27 h
  obtain ⟨y0, y1, rfl⟩ := list2 (l := xs) (by simpa using hxl)
  have g0 := hf 0 _ rfl
  have g1 := hf 1 _ rfl
  simp [cInt, cI64] at g0 g1
  obtain ⟨z0, q0, _, w0⟩ := DataW.trod_int Tryz.underlying3 g0
  obtain ⟨z1, q1, _, w1⟩ := DataW.trod_int Tryz.underlying2 g1
  exact ⟨z0, z1, by simpa using q0, by simpa using q1, bounds_i64 w0, bounds_i64 w1⟩
theorem act_cells {a : Addr} {i n : Nat} {cs : List Value} {D : DataW H × List MemPlace} (h1 : w.cells? base (a.add (i * Tryz.prog.cellsOf 29)) (Tryz.prog.cellsOf 29) = some cs) (h2 : DataW.trod enc Tryz.prog w base spare held n 29 cs = some D) :
    ∃ x : En.Act, x.ok ∧ x.kind < 256 ∧ ∀ q u, (En.actA x)[q]? = some u → w.cell? (a.add (i * 5 + q)) = some u := by
  have ce : Tryz.prog.cellsOf 29 = 5 := by kernel_rfl
  have c5 : Tryz.prog.cellsOf 5 = 1 := by kernel_rfl
  rw [ce] at h1
  obtain ⟨_, hlen, hcell⟩ := World.cells?_some h1
  obtain ⟨xs, k, hk, hxy, _, hxl, hf⟩ := DataW.trod_struct Tryz.underlying29 h2
  obtain ⟨y0, y1, y2, y3, rfl⟩ := list4 (l := xs) (by simpa using hxl)
  obtain ⟨v0, v1, v2, v3, v4, rfl⟩ := list5 hlen
  have g0 := hf 0 _ rfl
  have g1 := hf 1 _ rfl
  have g2 := hf 2 _ rfl
  have g3 := hf 3 _ rfl
  simp [c5, cInt, cVal] at g0 g1 g2 g3
  obtain ⟨z0, q0, _, w0⟩ := DataW.trod_int Tryz.underlying5 g0
  obtain ⟨z1, q1, _, w1⟩ := DataW.trod_int Tryz.underlying3 g1
  obtain ⟨z2, q2, _, w2⟩ := DataW.trod_int Tryz.underlying3 g2
  obtain ⟨z3, z4, rfl, rfl, b3, b4⟩ := val_cells g3
  have b0 := bounds_u8 w0
  have q0 : v0 = .int .u8 z0 := by simpa using q0
  have q1 : v1 = .int .i64 z1 := by simpa using q1
  have q2 : v2 = .int .i64 z2 := by simpa using q2
  subst q0; subst q1; subst q2
  have e : ((z0.toNat : Nat) : Int) = z0 := Int.toNat_of_nonneg b0.1
  refine ⟨⟨z0.toNat, z1, z2, z3, z4⟩, ⟨bounds_i64 w1, bounds_i64 w2, b3, b4⟩, by show z0.toNat < 256; omega, fun q u hu => ?_⟩
  have hq : q < 5 := by have := (Array.getElem?_eq_some_iff.1 hu).1; simpa [En.actA] using this
  have := hcell q hq
  rw [Go.Deep.add_add] at this
  rw [this, ← hu]
  simp only [En.actA, e]
  rw [List.getElem?_toArray]
theorem open_acts' {fuel : Nat} {a : Option Addr} {n c : Nat} {x : DataW H × List MemPlace} (hf : DataW.trod enc Tryz.prog w base spare held fuel 22 [.slice a n c] = some x) : ∃ l, En.ActsAt w a n c l := by
  rcases Go.Deep.open_slice Tryz.underlying22 hf with ⟨hcs, _⟩ | ⟨ad, len, cap, m, k, D, Pl, hcs, _, hl, hm, hmm, _, hx⟩
  · simp at hcs
    obtain ⟨rfl, rfl, rfl⟩ := hcs
    exact ⟨fun _ => ⟨0, 0, 0, 0, 0⟩, Nat.le_refl _, by unfold maxLen; omega, fun h => absurd h (by decide)⟩
  · simp at hcs
    obtain ⟨rfl, rfl, rfl⟩ := hcs
    have hlm : n ≤ m := by rw [hmm]; split <;> omega
    have each : ∀ i, ∃ x : En.Act, i < n → x.ok ∧ x.kind < 256 ∧ ∀ q u, (En.actA x)[q]? = some u → w.cell? (ad.add (i * 5 + q)) = some u := by
      intro i
      by_cases hi : i < n
      · obtain ⟨cs', h1, h2⟩ := hx i (by omega)
        obtain ⟨x, hx⟩ := act_cells h1 h2
        exact ⟨x, fun _ => hx⟩
      · exact ⟨⟨0, 0, 0, 0, 0⟩, fun h => absurd h hi⟩
    exact ⟨fun i => Classical.choose (each i), hl, hm, fun _ => ⟨ad, rfl, fun i hi => Classical.choose_spec (each i) hi⟩⟩
theorem open_acts {a : Option Addr} {n c : Nat} {d : DataW H} {p : List MemPlace} (h : DataW.Trod enc Tryz.prog w base spare held 22 (.slice a n c) d p) : ∃ l, En.ActsAt w a n c l := by
  obtain ⟨fuel, hf⟩ := h
  exact open_acts' (by simpa [Value.cells] using hf)
end
end Go.Proofs.YtfdfiiocccafkaaGreatDoor
