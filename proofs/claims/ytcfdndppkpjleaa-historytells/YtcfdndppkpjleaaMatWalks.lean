/-
  Contracts of the functions of package mat: each returns what the plain mathematics says, and nothing that was there is changed.
-/
import Derived.Test.YtcfdndppkpjleaaMRefBits
import Derived.Test.YtcfdndppkpjleaaMatMath
import Derived.Laws.ResultCell
import Derived.Deep.RegionWith
import Derived.Deep.RegionHeld3
import Derived.Deep.DrawnRows
namespace Go.Proofs.Ytcfdndppkpjleaa
open Go.RowKit
/-- a graph as the program holds it. -/
def matA (m : Mm.Gr) : Array Value := ((List.range 32).map fun i => Value.int .u64 ((m i : Nat) : Int)).toArray
theorem matA_size (m : Mm.Gr) : (matA m).size = 32 := by simp [matA]
theorem matA_get (m : Mm.Gr) (i : Nat) (h : i < 32) : (matA m)[i]? = some (.int .u64 (m i : Nat)) := by simp [matA, h]
theorem matA_ext {m n : Mm.Gr} (h : ∀ i, i < 32 → m i = n i) : matA m = matA n := by
  apply Array.ext_getElem?
  intro i
  by_cases hi : i < 32
  · rw [matA_get m i hi, matA_get n i hi, h i hi]
  · rw [Array.getElem?_eq_none (by rw [matA_size]; omega), Array.getElem?_eq_none (by rw [matA_size]; omega)]
theorem matA_zero : matA (fun _ => 0) = Array.replicate 32 (Value.int .u64 0) := by
  apply Array.ext_getElem?
  intro i
  by_cases h : i < 32
  · rw [matA_get _ i h]; simp [h]
  · rw [Array.getElem?_eq_none (by rw [matA_size]; omega), Array.getElem?_eq_none (by simp; omega)]
theorem matA_set (m : Mm.Gr) (k v : Nat) : (matA m).setIfInBounds k (.int .u64 (v : Nat)) = matA (fun i => if i = k then v else m i) := by
  apply Array.ext_getElem?
  intro i
  by_cases h : i < 32
  · rw [Array.getElem?_setIfInBounds, matA_get (fun i => if i = k then v else m i) i h, matA_get m i h]
    by_cases e : k = i
    · subst e
      simp [matA_size, h]
    · have : ¬ i = k := fun x => e x.symm
      simp [e, this]
  · rw [Array.getElem?_eq_none (by simp [matA_size]; omega), Array.getElem?_eq_none (by rw [matA_size]; omega)]
theorem matA_one (m : Mm.Gr) : (matA m).all (·.oneCell') = true := by
  rw [Array.all_eq_true]
  intro i hi
  rw [matA_size] at hi
  have := matA_get m i hi
  rw [Array.getElem?_eq_getElem (by rw [matA_size]; exact hi)] at this
  injection this with this
  rw [this]; rfl
theorem mat_info : (Try.prog.info? 50).map (·.size) = some 32 := by kernel_rfl
theorem matInfo (m : Mm.Gr) : (Try.prog.info? 50).map (·.size) = some (matA m).size := by rw [matA_size]; exact mat_info
theorem rmat_info : (Try.prog.info? 54).map (·.size) = some 32 := by kernel_rfl
theorem rmatInfo (m : Mm.Gr) : (Try.prog.info? 54).map (·.size) = some (matA m).size := by rw [matA_size]; exact rmat_info
/-- the block g holds the graph m. -/
def MatAt (w : World) (g : Nat) (m : Mm.Gr) (t : Nat) : Prop := w.heap[g]? = some (.cells (matA m) t (0, 0))
theorem MatAt.cell {w : World} {g : Nat} {m : Mm.Gr} {t : Nat} (h : MatAt w g m t) (i : Nat) (hi : i < 32) : w.cell? ⟨g, i, none⟩ = some (.int .u64 (m i : Nat)) := by
  rw [cell_of_row _ _ _ _ _ _ h, matA_get m i hi]
theorem MatAt.frozen {w : World} {g : Nat} {m : Mm.Gr} {t : Nat} (h : MatAt w g m t) (i : Nat) : w.frozen? ⟨g, i, none⟩ = false := frozen_of_row h
theorem MatAt.lt {w : World} {g : Nat} {m : Mm.Gr} {t : Nat} (h : MatAt w g m t) : g < w.heap.size := (Array.getElem?_eq_some_iff.1 h).1
theorem MatAt.below {w w' : World} {g : Nat} {m : Mm.Gr} {t : Nat} (h : MatAt w g m t) (hb : Below w.heap.size w w') : MatAt w' g m t := (hb.block g h.lt).trans h
theorem MatAt.alloc {w : World} {g : Nat} {m : Mm.Gr} {t : Nat} (h : MatAt w g m t) (o : Obj) : MatAt (w.alloc o) g m t := (Below.heap_alloc w o g h.lt).trans h
theorem MatAt.setRow {w : World} {g k : Nat} {m : Mm.Gr} {t : Nat} (h : MatAt w g m t) (cs : Array Value) (hk : g ≠ k) : MatAt (w.setRow k cs) g m t := (setRow_other w k g cs hk).trans h
theorem MatAt.drew {w : World} {g : Nat} {m : Mm.Gr} {t : Nat} (h : MatAt w g m t) : MatAt w.drew g m t := h
theorem MatAt.setCell {w : World} {g : Nat} {m : Mm.Gr} {t : Nat} (h : MatAt w g m t) (a : Addr) (v : Value) (hk : g ≠ a.block) : MatAt (w.setCell a v) g m t := (Below.heap_setCell w a v g hk).trans h
theorem matAt_new (w : World) (m : Mm.Gr) (t : Nat) : MatAt (w.alloc (.cells (matA m) t)) w.heap.size m t := heap_alloc_new w _
theorem matAt_put {w : World} {g : Nat} {m n : Mm.Gr} {t : Nat} (h : MatAt w g m t) : MatAt (w.setRow g (matA n)) g n t := setRow_heap _ _ _ _ _ _ h
theorem matAt_cell {w : World} {g k v : Nat} {m : Mm.Gr} {t : Nat} (h : MatAt w g m t) : MatAt (w.setCell ⟨g, k, none⟩ (.int .u64 (v : Nat))) g (fun i => if i = k then v else m i) t := by
  unfold MatAt
  rw [heap_set h, matA_set]
theorem MatAt.ext {w : World} {g : Nat} {m n : Mm.Gr} {t : Nat} (h : MatAt w g m t) (e : ∀ i, i < 32 → m i = n i) : MatAt w g n t := by
  unfold MatAt; rw [← matA_ext e]; exact h

theorem node_has (a : Int) : Sm.has 4294967295 a = (decide (0 ≤ a) && decide (a < 32)) := by
  by_cases h0 : 0 ≤ a
  · rw [Sm.has_eq a h0 (by decide), show (4294967295 : Nat) = 2 ^ 32 - 1 from rfl, Nat.testBit_two_pow_sub_one]
    rw [Bool.eq_iff_iff]; simp; omega
  · rw [Sm.has_neg (by omega)]; simp; omega
set_option maxHeartbeats 400000 in
theorem node_any (a : Int) (w : World) (h0 : -9223372036854775808 ≤ a) (h1 : a ≤ 9223372036854775807) :
    Calls Try.prog 59 #[.int .i64 a] w fun e w' => e = .returned (.bool (decide (0 ≤ a) && decide (a < 32))) ∧ w = w' := by
  have H := Lib.hid (node_has a)
  go_enter Try.func59, Try.ntmps59
  go_wp2_with (go_at_call 74; refine (has_any 4294967295 _ _ (by decide) h0 h1).mono ?_; rintro e w' ⟨rfl, rfl⟩)
  go_ret
  exact ⟨ret_bool H.out, rfl⟩
theorem node_yes (a : Nat) (w : World) (h : a < 32) : Calls Try.prog 59 #[.int .i64 (a : Nat)] w fun e w' => e = .returned (.bool true) ∧ w = w' := by
  have := node_any (a : Nat) w (by omega) (by omega)
  rw [decide_eq_true (by omega : (0 : Int) ≤ (a : Nat)), decide_eq_true (by omega : ((a : Nat) : Int) < 32)] at this
  exact this
def Far (a : Int) : Prop := (-9223372036854775808 ≤ a ∧ a ≤ 9223372036854775807) ∧ (a < 0 ∨ 32 ≤ a)
theorem node_no (a : Int) (w : World) (h : Far a) : Calls Try.prog 59 #[.int .i64 a] w fun e w' => e = .returned (.bool false) ∧ w = w' := by
  have := node_any a w h.1.1 h.1.2
  have e : (decide (0 ≤ a) && decide (a < 32)) = false := by
    have := h.2
    rw [Bool.and_eq_false_iff]; simp; omega
  rw [e] at this
  exact this
theorem low_and {x : Nat} (h : x < 18446744073709551616) : bits .and .u64 (x : Int) 4294967295 = ((x % 4294967296 : Nat) : Int) := by
  rw [show (4294967295 : Int) = ((4294967295 : Nat) : Int) from rfl, bits_and_u64_nat x _ h (by decide)]
  have := Nat.and_two_pow_sub_one_eq_mod x 32
  have e : x &&& 4294967295 = x % 4294967296 := by simpa using this
  rw [e]
theorem outs_of {m : Mm.Gr} {a : Nat} (ha : a < 32) : Mm.outs m a = m a % 4294967296 := by unfold Mm.outs; rw [if_pos ha]
/- what comes to a node -/
def insTo (m : Mm.Gr) (a k : Nat) : Nat := Mm.mk (fun j => (m j).testBit a) k
theorem insTo_lt (m : Mm.Gr) (a k : Nat) : insTo m a k < 18446744073709551616 := Mm.mk_lt _ _
theorem insTo_yes {m : Mm.Gr} {a k : Nat} (h : (m k).testBit a = true) : Sm.add (insTo m a k) (k : Nat) = insTo m a (k + 1) := by
  unfold insTo; rw [Mm.mk]; simp [h]
theorem insTo_no {m : Mm.Gr} {a k : Nat} (h : (m k).testBit a = false) : insTo m a k = insTo m a (k + 1) := by
  unfold insTo; rw [Mm.mk]; simp [h]
theorem ins_of {m : Mm.Gr} {a : Nat} (ha : a < 32) : Mm.ins m a = insTo m a 32 := by unfold Mm.ins; rw [if_pos ha]; rfl
theorem has_val (x : Nat) (k : Nat) (b : Bool) (w : World) (hx : x < 18446744073709551616) (hk : k < 64) (h : x.testBit k = b) :
    Calls Try.prog 74 #[.int .u64 x, .int .i64 (k : Nat)] w fun e w' => e = .returned (.bool b) ∧ w = w' := by
  have := has_any x (k : Nat) w hx (by omega) (by omega)
  rw [Sm.has_nat k hx, h] at this
  exact this
theorem with_val (x k y : Nat) (w : World) (hx : x < 18446744073709551616) (hk : k < 64) (h : Sm.add x (k : Nat) = y) :
    Calls Try.prog 60 #[.int .u64 x, .int .i64 (k : Nat)] w fun e w' => e = .returned (.int .u64 (y : Nat)) ∧ w = w' := by
  have := with_any x (k : Nat) w hx (by omega) (by omega)
  rw [h] at this
  exact this
end Go.Proofs.Ytcfdndppkpjleaa
