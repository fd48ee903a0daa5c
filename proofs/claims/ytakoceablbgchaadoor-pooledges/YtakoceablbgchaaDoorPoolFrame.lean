/-
  The frame that the statements of this seat share: the table that the row lists gives the table's cells; a world that holds it.
-/
import Derived.Test.YtakoceablbgchaaDoorCards
import Derived.Test.YtakoceablbgchaaDoorTie
import Derived.Test.YtakoceablbgchaaDoorJDoes
import Derived.WalkKit
import Derived.ProofKit
import Derived.OpenShut
import Derived.ShutString
import Derived.ChangeOld
import Derived.Below
import Derived.Deep.DeepHandedRow
import Derived.Lib.LaidTab
import Derived.Lib.SmallJoins
import Derived.Deep.Slices
namespace Go.Proofs.YtakoceablbgchaaDoor
open Go.ChangeShapes Go.WideShapes Go.ChangeAt Go.RowKit
theorem own : ownKnob Tryd.prog.godebug = none := by kernel_rfl
theorem laidOut : laidOutB Tryd.prog = true := by kernel_rfl
theorem gTab : Tryd.prog.globalNamed "math/bits.deBruijn64tab" = some 0 := by kernel_rfl
theorem gTabType : (Tryd.prog.globals[0]?).map (·.type) = some 108 := by kernel_rfl
theorem cellsTab : Tryd.prog.cellsOf 108 = 64 := by kernel_rfl
theorem cellsU8 : Tryd.prog.cellsOf 5 = 1 := by kernel_rfl
def tabInts : List Int := Lib.deBruijn64tab.map fun (k : Nat) => (k : Int)
def tabLaid : List (String × DataW Unit) := [("math/bits.deBruijn64tab", Lib.tabData .u8 tabInts)]
theorem table {W : World} (h : laidMetH Tryd.prog tabLaid W) : TabAt W := by
  have ht : Lib.TabIs Tryd.prog W "math/bits.deBruijn64tab" .u8 tabInts :=
    Lib.tabIs_of_head (rest := []) gTab gTabType Tryd.underlying108 Tryd.underlying5 cellsU8 cellsTab h
  intro j hj
  have := ht.cell gTab j (by simpa [tabInts, Lib.deBruijn64tab] using hj)
  rw [this]
  have hl : j < Lib.deBruijn64tab.length := by simpa [Lib.deBruijn64tab] using hj
  simp [tabInts, List.getD, List.getElem?_map, List.getElem?_eq_getElem hl]
noncomputable def laidWorld (os : Os) : World :=
  { World.holding Tryd.prog os ⟨#[], #[], []⟩ with heap := (World.holding Tryd.prog os ⟨#[], #[], []⟩).heap.modify 0 fun
      | .cells _ t frozen => .cells (tabInts.map fun z => Value.int .u8 z).toArray t frozen
      | o => o }
section
variable {H : Type} {enc : TypeId × Value → H} {w : World} {base : Nat} {spare : Nat → Bool} {held : Bool}
def intAt : Value → Int | .int _ z => z | _ => 0
theorem list3 {α : Type} {l : List α} (h : l.length = 3) : ∃ a b c, l = [a, b, c] := by
  rcases l with _ | ⟨a, _ | ⟨b, _ | ⟨c, _ | ⟨d, l⟩⟩⟩⟩
  · simp at h
  · simp at h
  · simp at h
  · exact ⟨a, b, c, rfl⟩
  · simp at h
theorem act_cells {a : Addr} {i n : Nat} {cs : List Value} {D : DataW H × List MemPlace} (h1 : w.cells? base (a.add (i * Tryd.prog.cellsOf 43)) (Tryd.prog.cellsOf 43) = some cs) (h2 : DataW.trod enc Tryd.prog w base spare held n 43 cs = some D) :
    ∃ x : Po.Act, w.cell? (a.add (i * 3)) = some (.int .u8 (x.kind : Nat)) ∧ w.cell? (a.add (i * 3 + 1)) = some (.int .i64 x.a) ∧ w.cell? (a.add (i * 3 + 2)) = some (.int .i64 x.b) ∧ x.kind < 256 ∧ i64p x.a ∧ i64p x.b := by
  have ce : Tryd.prog.cellsOf 43 = 3 := by kernel_rfl
  have c5 : Tryd.prog.cellsOf 5 = 1 := by kernel_rfl
  have c3 : Tryd.prog.cellsOf 3 = 1 := by kernel_rfl
  rw [ce] at h1
  obtain ⟨_, hlen, hcell⟩ := World.cells?_some h1
  obtain ⟨xs, k, hk, hxy, _, hxl, hf⟩ := DataW.trod_struct Tryd.underlying43 h2
  obtain ⟨y0, y1, y2, rfl⟩ := list3 (l := xs) (by simpa using hxl)
  obtain ⟨v0, v1, v2, rfl⟩ := list3 hlen
  have g0 := hf 0 _ rfl
  have g1 := hf 1 _ rfl
  have g2 := hf 2 _ rfl
  simp [c5, c3] at g0 g1 g2
  have e0 := hcell 0 (by omega)
  have e1 := hcell 1 (by omega)
  have e2 := hcell 2 (by omega)
  rw [Go.Deep.add_add] at e0 e1 e2
  obtain ⟨z0, q0, _, w0⟩ := DataW.trod_int Tryd.underlying5 g0
  obtain ⟨z1, q1, _, w1⟩ := DataW.trod_int Tryd.underlying3 g1
  obtain ⟨z2, q2, _, w2⟩ := DataW.trod_int Tryd.underlying3 g2
  have b0 := bounds_u8 w0
  have q0 : v0 = .int .u8 z0 := by simpa using q0
  have q1 : v1 = .int .i64 z1 := by simpa using q1
  have q2 : v2 = .int .i64 z2 := by simpa using q2
  subst q0; subst q1; subst q2
  refine ⟨⟨z0.toNat, z1, z2⟩, ?_, ?_, ?_, ?_, bounds_i64 w1, bounds_i64 w2⟩
  · have e : ((z0.toNat : Nat) : Int) = z0 := Int.toNat_of_nonneg b0.1
    show _ = some (Value.int .u8 ((z0.toNat : Nat) : Int))
    rw [e]; simpa using e0
  · simpa using e1
  · simpa using e2
  · show z0.toNat < 256
    omega
theorem open_acts' {fuel : Nat} {a : Option Addr} {n c : Nat} {x : DataW H × List MemPlace} (hf : DataW.trod enc Tryd.prog w base spare held fuel 22 [.slice a n c] = some x) : ∃ l, ActsAt w a n c l := by
  rcases Go.Deep.open_slice Tryd.underlying22 hf with ⟨hcs, _⟩ | ⟨ad, len, cap, m, k, D, Pl, hcs, _, hl, hm, hmm, _, hx⟩
  · simp at hcs
    obtain ⟨rfl, rfl, rfl⟩ := hcs
    exact ⟨fun _ => ⟨0, 0, 0⟩, Nat.le_refl _, by unfold maxLen; omega, fun h => absurd h (by decide)⟩
  · simp at hcs
    obtain ⟨rfl, rfl, rfl⟩ := hcs
    have hlm : n ≤ m := by rw [hmm]; split <;> omega
    have each : ∀ i, ∃ x : Po.Act, i < n → w.cell? (ad.add (i * 3)) = some (.int .u8 (x.kind : Nat)) ∧ w.cell? (ad.add (i * 3 + 1)) = some (.int .i64 x.a) ∧ w.cell? (ad.add (i * 3 + 2)) = some (.int .i64 x.b) ∧ x.kind < 256 ∧ i64p x.a ∧ i64p x.b := by
      intro i
      by_cases hi : i < n
      · obtain ⟨cs', h1, h2⟩ := hx i (by omega)
        obtain ⟨x, hx⟩ := act_cells h1 h2
        exact ⟨x, fun _ => hx⟩
      · exact ⟨⟨0, 0, 0⟩, fun h => absurd h hi⟩
    exact ⟨fun i => Classical.choose (each i), hl, hm, fun _ => ⟨ad, rfl, fun i hi => Classical.choose_spec (each i) hi⟩⟩
theorem open_acts {a : Option Addr} {n c : Nat} {d : DataW H} {p : List MemPlace} (h : DataW.Trod enc Tryd.prog w base spare held 22 (.slice a n c) d p) : ∃ l, ActsAt w a n c l := by
  obtain ⟨fuel, hf⟩ := h
  exact open_acts' (by simpa [Value.cells] using hf)
end
end Go.Proofs.YtakoceablbgchaaDoor
