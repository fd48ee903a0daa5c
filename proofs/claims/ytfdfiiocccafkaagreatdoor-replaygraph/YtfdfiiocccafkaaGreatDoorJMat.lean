/-
  Contracts of the functions of package mat: each returns what the plain mathematics says, and nothing that was there is changed.
  Contracts of mat.Has, mat.Put and mat.Cut.
  Contracts of what mat.Reach and mat.Back hand to spread, of spread, Reach, Back and Free.
  Two graphs compared, a graph as both sides hold it, and the statements' own first look: the answers that the document fixes are given.
  Orders in memory; the table behind calls; the steps of regions that draw their order.
-/
import Derived.Test.YtfdfiiocccafkaaGreatDoorJSet
import Derived.Test.YtfdfiiocccafkaaGreatDoorJMath
import Derived.Laws.ResultCell
import Derived.Deep.RegionWith
import Derived.Deep.RegionHeld3
import Derived.Deep.DrawnRows
import Derived.Laws.ByValue
import Derived.ChangeKeysEq
import Derived.Deep.WholeRow
import Derived.Deep.MidRow
namespace Go.Proofs.YtfdfiiocccafkaaGreatDoor
open Go.RowKit
/-- a graph as the program holds it. -/
def matA (m : Mm.Gr) : Array Value := ((List.range 32).map fun i => Value.int .u64 ((m i : Nat) : Int)).toArray
theorem matA_size (m : Mm.Gr) : (matA m).size = 32 := by simp [matA]
theorem matA_get (m : Mm.Gr) (i : Nat) (h : i < 32) : (matA m)[i]? = some (.int .u64 (m i : Nat)) := by simp [matA, h]
theorem matA_ext {m n : Mm.Gr} (h : ∀ i, i < 32 → m i = n i) : matA m = matA n := by
  apply Array.ext_getElem?
  intro i
  by_cases hi : i < 32
  · rw [matA_get m i hi, matA_get n i hi, h i hi]
  · rw [Array.getElem?_eq_none (by rw [matA_size]; omega), Array.getElem?_eq_none (by rw [matA_size]; omega)]
theorem matA_zero : matA (fun _ => 0) = Array.replicate 32 (Value.int .u64 0) := by
  apply Array.ext_getElem?
  intro i
  by_cases h : i < 32
  · rw [matA_get _ i h]; simp [h]
  · rw [Array.getElem?_eq_none (by rw [matA_size]; omega), Array.getElem?_eq_none (by simp; omega)]
theorem matA_set (m : Mm.Gr) (k v : Nat) : (matA m).setIfInBounds k (.int .u64 (v : Nat)) = matA (fun i => if i = k then v else m i) := by
  apply Array.ext_getElem?
  intro i
  by_cases h : i < 32
  · rw [Array.getElem?_setIfInBounds, matA_get (fun i => if i = k then v else m i) i h, matA_get m i h]
    by_cases e : k = i
    · subst e
      simp [matA_size, h]
    · have : ¬ i = k := fun x => e x.symm
      simp [e, this]
  · rw [Array.getElem?_eq_none (by simp [matA_size]; omega), Array.getElem?_eq_none (by rw [matA_size]; omega)]
theorem matA_one (m : Mm.Gr) : (matA m).all (·.oneCell') = true := by
  rw [Array.all_eq_true]
  intro i hi
  rw [matA_size] at hi
  have := matA_get m i hi
  rw [Array.getElem?_eq_getElem (by rw [matA_size]; exact hi)] at this
  injection this with this
  rw [this]; rfl
theorem mat_info : (Tryz.prog.info? 84).map (·.size) = some 32 := by kernel_rfl
theorem matInfo (m : Mm.Gr) : (Tryz.prog.info? 84).map (·.size) = some (matA m).size := by rw [matA_size]; exact mat_info
theorem rmat_info : (Tryz.prog.info? 48).map (·.size) = some 32 := by kernel_rfl
theorem rmatInfo (m : Mm.Gr) : (Tryz.prog.info? 48).map (·.size) = some (matA m).size := by rw [matA_size]; exact rmat_info
/-- the block g holds the graph m. -/
def MatAt (w : World) (g : Nat) (m : Mm.Gr) (t : Nat) : Prop := w.heap[g]? = some (.cells (matA m) t (0, 0))
theorem MatAt.cell {w : World} {g : Nat} {m : Mm.Gr} {t : Nat} (h : MatAt w g m t) (i : Nat) (hi : i < 32) : w.cell? ⟨g, i, none⟩ = some (.int .u64 (m i : Nat)) := by
  rw [cell_of_row _ _ _ _ _ _ h, matA_get m i hi]
theorem MatAt.frozen {w : World} {g : Nat} {m : Mm.Gr} {t : Nat} (h : MatAt w g m t) (i : Nat) : w.frozen? ⟨g, i, none⟩ = false := frozen_of_row h
theorem MatAt.lt {w : World} {g : Nat} {m : Mm.Gr} {t : Nat} (h : MatAt w g m t) : g < w.heap.size := (Array.getElem?_eq_some_iff.1 h).1
theorem MatAt.below {w w' : World} {g : Nat} {m : Mm.Gr} {t : Nat} (h : MatAt w g m t) (hb : Below w.heap.size w w') : MatAt w' g m t := (hb.block g h.lt).trans h
theorem MatAt.alloc {w : World} {g : Nat} {m : Mm.Gr} {t : Nat} (h : MatAt w g m t) (o : Obj) : MatAt (w.alloc o) g m t := (Below.heap_alloc w o g h.lt).trans h
theorem MatAt.setRow {w : World} {g k : Nat} {m : Mm.Gr} {t : Nat} (h : MatAt w g m t) (cs : Array Value) (hk : g ≠ k) : MatAt (w.setRow k cs) g m t := (setRow_other w k g cs hk).trans h
theorem MatAt.drew {w : World} {g : Nat} {m : Mm.Gr} {t : Nat} (h : MatAt w g m t) : MatAt w.drew g m t := h
theorem MatAt.setCell {w : World} {g : Nat} {m : Mm.Gr} {t : Nat} (h : MatAt w g m t) (a : Addr) (v : Value) (hk : g ≠ a.block) : MatAt (w.setCell a v) g m t := (Below.heap_setCell w a v g hk).trans h
theorem matAt_new (w : World) (m : Mm.Gr) (t : Nat) : MatAt (w.alloc (.cells (matA m) t)) w.heap.size m t := heap_alloc_new w _
theorem matAt_put {w : World} {g : Nat} {m n : Mm.Gr} {t : Nat} (h : MatAt w g m t) : MatAt (w.setRow g (matA n)) g n t := setRow_heap _ _ _ _ _ _ h
theorem matAt_cell {w : World} {g k v : Nat} {m : Mm.Gr} {t : Nat} (h : MatAt w g m t) : MatAt (w.setCell ⟨g, k, none⟩ (.int .u64 (v : Nat))) g (fun i => if i = k then v else m i) t := by
  unfold MatAt
  rw [heap_set h, matA_set]
theorem MatAt.ext {w : World} {g : Nat} {m n : Mm.Gr} {t : Nat} (h : MatAt w g m t) (e : ∀ i, i < 32 → m i = n i) : MatAt w g n t := by
  unfold MatAt; rw [← matA_ext e]; exact h

theorem node_has (a : Int) : Sm.has 4294967295 a = (decide (0 ≤ a) && decide (a < 32)) := by
  by_cases h0 : 0 ≤ a
  · rw [Sm.has_eq a h0 (by decide), show (4294967295 : Nat) = 2 ^ 32 - 1 from rfl, Nat.testBit_two_pow_sub_one]
    rw [Bool.eq_iff_iff]; simp; omega
  · rw [Sm.has_neg (by omega)]; simp; omega
set_option maxHeartbeats 400000 in
theorem node_any (a : Int) (w : World) (h0 : -9223372036854775808 ≤ a) (h1 : a ≤ 9223372036854775807) :
    Calls Tryz.prog 172 #[.int .i64 a] w fun e w' => e = .returned (.bool (decide (0 ≤ a) && decide (a < 32))) ∧ w = w' := by
  have H := Lib.hid (node_has a)
  go_enter Tryz.func172, Tryz.ntmps172
  go_wp2_with (go_at_call 133; refine (has_any 4294967295 _ _ (by decide) h0 h1).mono ?_; rintro e w' ⟨rfl, rfl⟩)
  go_ret
  exact ⟨ret_bool H.out, rfl⟩
theorem node_yes (a : Nat) (w : World) (h : a < 32) : Calls Tryz.prog 172 #[.int .i64 (a : Nat)] w fun e w' => e = .returned (.bool true) ∧ w = w' := by
  have := node_any (a : Nat) w (by omega) (by omega)
  rw [decide_eq_true (by omega : (0 : Int) ≤ (a : Nat)), decide_eq_true (by omega : ((a : Nat) : Int) < 32)] at this
  exact this
def Far (a : Int) : Prop := (-9223372036854775808 ≤ a ∧ a ≤ 9223372036854775807) ∧ (a < 0 ∨ 32 ≤ a)
theorem node_no (a : Int) (w : World) (h : Far a) : Calls Tryz.prog 172 #[.int .i64 a] w fun e w' => e = .returned (.bool false) ∧ w = w' := by
  have := node_any a w h.1.1 h.1.2
  have e : (decide (0 ≤ a) && decide (a < 32)) = false := by
    have := h.2
    rw [Bool.and_eq_false_iff]; simp; omega
  rw [e] at this
  exact this
theorem low_and {x : Nat} (h : x < 18446744073709551616) : bits .and .u64 (x : Int) 4294967295 = ((x % 4294967296 : Nat) : Int) := by
  rw [show (4294967295 : Int) = ((4294967295 : Nat) : Int) from rfl, bits_and_u64_nat x _ h (by decide)]
  have := Nat.and_two_pow_sub_one_eq_mod x 32
  have e : x &&& 4294967295 = x % 4294967296 := by simpa using this
  rw [e]
theorem outs_of {m : Mm.Gr} {a : Nat} (ha : a < 32) : Mm.outs m a = m a % 4294967296 := by unfold Mm.outs; rw [if_pos ha]
set_option maxHeartbeats 400000 in
theorem outs_in (m : Mm.Gr) (a : Nat) (w : World) (hm : Mm.Ok m) (ha : a < 32) :
    Calls Tryz.prog 152 #[.agg (matA m), .int .i64 (a : Nat)] w fun e w' => e = .returned (.int .u64 (Mm.outs m a : Nat)) ∧ Below w.heap.size w w' := by
  have hg := matA_get m a ha
  have H := Lib.hid (low_and (hm a ha))
  have H2 := Lib.hid (outs_of (m := m) ha)
  have hma := hm a ha
  go_enter Tryz.func152, Tryz.ntmps152
  go_wp2_with (go_at_call 172; refine (node_yes _ _ ha).mono ?_; rintro e w' ⟨rfl, rfl⟩)
  go_ret
  rw [H2.out]
  exact ⟨ret_int H.out, (Below.refl _ _).alloc (Nat.le_refl _) _⟩
set_option maxHeartbeats 400000 in
theorem outs_far (m : Mm.Gr) (a : Int) (w : World) (ha : Far a) :
    Calls Tryz.prog 152 #[.agg (matA m), .int .i64 a] w fun e w' => e = .returned (.int .u64 0) ∧ Below w.heap.size w w' := by
  go_enter Tryz.func152, Tryz.ntmps152
  go_wp2_with (go_at_call 172; refine (node_no _ _ ha).mono ?_; rintro e w' ⟨rfl, rfl⟩)
  go_ret
  exact ⟨rfl, (Below.refl _ _).alloc (Nat.le_refl _) _⟩
/- what comes to a node -/
def insTo (m : Mm.Gr) (a k : Nat) : Nat := Mm.mk (fun j => (m j).testBit a) k
theorem insTo_lt (m : Mm.Gr) (a k : Nat) : insTo m a k < 18446744073709551616 := Mm.mk_lt _ _
theorem insTo_yes {m : Mm.Gr} {a k : Nat} (h : (m k).testBit a = true) : Sm.add (insTo m a k) (k : Nat) = insTo m a (k + 1) := by
  unfold insTo; rw [Mm.mk]; simp [h]
theorem insTo_no {m : Mm.Gr} {a k : Nat} (h : (m k).testBit a = false) : insTo m a k = insTo m a (k + 1) := by
  unfold insTo; rw [Mm.mk]; simp [h]
theorem ins_of {m : Mm.Gr} {a : Nat} (ha : a < 32) : Mm.ins m a = insTo m a 32 := by unfold Mm.ins; rw [if_pos ha]; rfl
theorem has_val (x : Nat) (k : Nat) (b : Bool) (w : World) (hx : x < 18446744073709551616) (hk : k < 64) (h : x.testBit k = b) :
    Calls Tryz.prog 133 #[.int .u64 x, .int .i64 (k : Nat)] w fun e w' => e = .returned (.bool b) ∧ w = w' := by
  have := has_any x (k : Nat) w hx (by omega) (by omega)
  rw [Sm.has_nat k hx, h] at this
  exact this
theorem with_val (x k y : Nat) (w : World) (hx : x < 18446744073709551616) (hk : k < 64) (h : Sm.add x (k : Nat) = y) :
    Calls Tryz.prog 111 #[.int .u64 x, .int .i64 (k : Nat)] w fun e w' => e = .returned (.int .u64 (y : Nat)) ∧ w = w' := by
  have := with_any x (k : Nat) w hx (by omega) (by omega)
  rw [h] at this
  exact this
set_option maxHeartbeats 1000000 in
theorem ins_in (m : Mm.Gr) (a : Nat) (w : World) (hm : Mm.Ok m) (ha : a < 32) :
    Calls Tryz.prog 154 #[.agg (matA m), .int .i64 (a : Nat)] w fun e w' => e = .returned (.int .u64 (Mm.ins m a : Nat)) ∧ Below w.heap.size w w' := by
  have H2 := Lib.hid (ins_of (m := m) ha)
  go_enter Tryz.func154, Tryz.ntmps154
  go_wp2_with (go_at_call 172; refine (node_yes _ _ ha).mono ?_; rintro e w' ⟨rfl, rfl⟩)
  go_loop [5, 10] (fun s i => ∃ k : Nat, k ≤ 32 ∧ i = .int .i64 k ∧ s = .int .u64 (insTo m a k : Nat)) (fun _ i => 32 - (intOf i).toNat)
  case atStart => exact ⟨0, Nat.zero_le _, rfl, rfl⟩
  case round =>
    obtain ⟨k, hk, rfl, rfl⟩ := hrel
    by_cases hlt : k < 32
    · have hg := matA_get m k hlt
      have hmk := hm k hlt
      cases ht : (m k).testBit a
      · have HT := Lib.hid ht
        have HN := Lib.hid (insTo_no ht)
        clear ht
        go_wp2_with (go_at_call 133; refine (has_val _ _ _ _ hmk (by omega) HT.out).mono ?_; rintro e w' ⟨rfl, rfl⟩)
        go_round
        case rel => exact ⟨k + 1, by omega, by go_num, by rw [HN.out]⟩
        case measure => simp [intOf]; omega
      · have HT := Lib.hid ht
        have HN := Lib.hid (insTo_yes ht)
        clear ht
        have hq := insTo_lt m a k
        go_wp2_with (first
          | (go_at_call 133; refine (has_val _ _ _ _ hmk (by omega) HT.out).mono ?_; rintro e w' ⟨rfl, rfl⟩)
          | (go_at_call 111; refine (with_val _ _ _ _ hq (by omega) HN.out).mono ?_; rintro e w' ⟨rfl, rfl⟩))
        go_round
        case rel => exact ⟨k + 1, by omega, by go_num, rfl⟩
        case measure => simp [intOf]; omega
    · obtain rfl : k = 32 := by omega
      go_wp2
      go_ret
      rw [H2.out]
      exact ⟨rfl, (Below.refl _ _).alloc (Nat.le_refl _) _⟩
set_option maxHeartbeats 400000 in
theorem ins_far (m : Mm.Gr) (a : Int) (w : World) (ha : Far a) :
    Calls Tryz.prog 154 #[.agg (matA m), .int .i64 a] w fun e w' => e = .returned (.int .u64 0) ∧ Below w.heap.size w w' := by
  go_enter Tryz.func154, Tryz.ntmps154
  go_wp2_with (go_at_call 172; refine (node_no _ _ ha).mono ?_; rintro e w' ⟨rfl, rfl⟩)
  go_ret
  exact ⟨rfl, (Below.refl _ _).alloc (Nat.le_refl _) _⟩
end Go.Proofs.YtfdfiiocccafkaaGreatDoor
namespace Go.Proofs.YtfdfiiocccafkaaGreatDoor
open Go.RowKit
/-- does the graph m have the edge from a to b? -/
def edge (m : Mm.Gr) (a b : Int) : Bool := decide (0 ≤ a) && (decide (0 ≤ b) && (Mm.outs m a.toNat).testBit b.toNat)
theorem edge_in (m : Mm.Gr) (a : Nat) (b : Int) : Sm.has (Mm.outs m a) b = edge m (a : Nat) b := by
  unfold edge
  have h := Mm.outs_lt m a
  by_cases h0 : 0 ≤ b
  · rw [Sm.has_eq b h0 (by omega)]
    simp [h0]
  · rw [Sm.has_neg (by omega)]
    simp [h0]
theorem edge_far (m : Mm.Gr) (a b : Int) (h : Far a) : edge m a b = false := by
  unfold edge
  have := h.2
  by_cases h0 : 0 ≤ a
  · have : Mm.outs m a.toNat = 0 := by unfold Mm.outs; rw [if_neg (by omega)]
    simp [this]
  · simp [h0]
theorem has_zero (i : Int) : Sm.has 0 i = false := by unfold Sm.has; simp
theorem hasI_val (x : Nat) (k : Int) (b : Bool) (w : World) (hx : x < 18446744073709551616) (h0 : -9223372036854775808 ≤ k) (h1 : k ≤ 9223372036854775807) (h : Sm.has x k = b) :
    Calls Tryz.prog 133 #[.int .u64 x, .int .i64 k] w fun e w' => e = .returned (.bool b) ∧ w = w' := by
  have := has_any x k w hx h0 h1
  rw [h] at this
  exact this
/- Put -/
def zeroM : Mm.Gr := fun _ => 0
theorem zero_lit (w : World) (t : Nat) : MatAt (w.alloc (.cells (Array.replicate 32 (Value.int .u64 0)) t)) w.heap.size zeroM t := by
  unfold MatAt zeroM; rw [matA_zero]; exact heap_alloc_new _ _
theorem results_row_tmp {fn : Func} {p u : Tmp} {ty : TypeId} (h : fn.results = #[.cell p ty, .tmp u]) (tmps : Array Value) (w : World) (g : Nat) (t : TypeId) (cs : Array Value) (fr : Nat × Nat) (n : Nat) (el : TypeId) (x : Value)
    (hp : tmps.getD p undef = .pointer (some ⟨g, 0, none⟩)) (hx : tmps.getD u undef = x) (hg : w.heap[g]? = some (.cells cs t fr))
    (hu : Tryz.prog.underlying ty = some (.array n el)) (hi : (Tryz.prog.info? ty).map (·.size) = some cs.size) :
    (results fn tmps).run Tryz.prog w = .ok (.tuple #[.agg cs, x]) w := by
  rw [results_cell_tmp h, hp, hx]
  simp [asAddr, Result.andThen, run_loadVar_row w g t ty cs fr _ hg hu rfl hi]
theorem put_eq {m : Mm.Gr} {a b : Nat} (i : Nat) (_ : i < 32) : (if i = a then Sm.add (m a) (b : Nat) else m i) = Mm.put m a b i := by
  unfold Mm.put
  split
  · rename_i h; rw [h]
  · rfl
set_option maxHeartbeats 1000000 in
set_option maxRecDepth 100000 in
theorem put_yes (m : Mm.Gr) (a b : Nat) (w : World) (hm : Mm.Ok m) (ha : a < 32) (hb : b < 32) (hab : a ≠ b) :
    Calls Tryz.prog 147 #[.agg (matA m), .int .i64 (a : Nat), .int .i64 (b : Nat)] w fun e w' => e = .returned (.tuple #[.agg (matA (Mm.put m a b)), .bool true]) ∧ Below w.heap.size w w' := by
  have hne : (((a : Nat) : Int) == ((b : Nat) : Int)) = false := by simp; omega
  have hg := matA_get m a ha
  have hma := hm a ha
  have HP := Lib.hid (matA_ext (put_eq (m := m) (a := a) (b := b)))
  have HS := Lib.hid (matA_set m a (Sm.add (m a) (b : Nat)))
  have HI := Lib.hid (matInfo m)
  go_enter Tryz.func147, Tryz.ntmps147
  go_wp2_with (first
    | (go_at_call 172; refine (node_yes _ _ (by assumption)).mono ?_; rintro e w' ⟨rfl, rfl⟩)
    | (go_at_call 111; refine (with_val _ _ _ _ hma (by omega) rfl).mono ?_; rintro e w' ⟨rfl, rfl⟩)
    | (refine wpList_load_row rfl 84 (.tmp 3) rfl w.heap.size rfl 84 _ (0, 0) _ (heap_alloc2_old _ _ _) Tryz.underlying84 rfl (by rw [Array.size_setIfInBounds]; exact HI.out) ?_)
    | (refine wpList_store_row rfl 84 (.tmp 6) (.tmp 29) rfl (w.heap.size + 1) _ rfl rfl 84 _ (heap_alloc2_new _ _ _) (by rw [Array.size_setIfInBounds]; exact HI.out) (by rw [Array.size_setIfInBounds, matA_size]; rfl) (by rw [HS.out]; exact matA_one _) ?_))
  rw [HS.out, HP.out]
  refine bodyPost_ret (results_row_tmp rfl _ _ (w.heap.size + 1) 84 _ (0, 0) _ _ (.bool true) rfl rfl (setRow_heap _ _ _ _ _ _ (heap_alloc2_new _ _ _)) Tryz.underlying84 (matInfo _)) rfl ⟨rfl, ?_⟩
  exact setRow_below (((Below.refl _ _).alloc (Nat.le_refl _) _).alloc (by simp) _) (by omega)
set_option maxHeartbeats 1000000 in
set_option maxRecDepth 100000 in
theorem put_no1 (m : Mm.Gr) (a b : Int) (w : World) (ha : Far a) :
    Calls Tryz.prog 147 #[.agg (matA m), .int .i64 a, .int .i64 b] w fun e w' => e = .returned (.tuple #[.agg (matA m), .bool false]) ∧ Below w.heap.size w w' := by
  go_enter Tryz.func147, Tryz.ntmps147
  go_wp2_with (first
    | (go_at_call 172; refine (node_no _ _ ha).mono ?_; rintro e w' ⟨rfl, rfl⟩)
    | (refine wpList_load_row rfl 84 (.tmp 3) rfl w.heap.size rfl 84 (matA m) (0, 0) _ (heap_alloc2_old _ _ _) Tryz.underlying84 rfl (matInfo m) ?_)
    | (refine wpList_store_row rfl 84 (.tmp 6) (.tmp 21) rfl (w.heap.size + 1) (matA m) rfl rfl 84 _ (heap_alloc2_new _ _ _) (matInfo m) (by rw [matA_size]; rfl) (matA_one _) ?_))
  refine bodyPost_ret (results_row_tmp rfl _ _ (w.heap.size + 1) 84 (matA m) (0, 0) _ _ (.bool false) rfl rfl (setRow_heap _ _ _ _ _ _ (heap_alloc2_new _ _ _)) Tryz.underlying84 (matInfo _)) rfl ⟨rfl, ?_⟩
  exact setRow_below (((Below.refl _ _).alloc (Nat.le_refl _) _).alloc (by simp) _) (by omega)
set_option maxHeartbeats 1000000 in
set_option maxRecDepth 100000 in
theorem put_no2 (m : Mm.Gr) (a : Nat) (b : Int) (w : World) (ha : a < 32) (hb : Far b) :
    Calls Tryz.prog 147 #[.agg (matA m), .int .i64 (a : Nat), .int .i64 b] w fun e w' => e = .returned (.tuple #[.agg (matA m), .bool false]) ∧ Below w.heap.size w w' := by
  go_enter Tryz.func147, Tryz.ntmps147
  go_wp2_with (first
    | (go_at_call_of 172 b; refine (node_no _ _ hb).mono ?_; rintro e w' ⟨rfl, rfl⟩)
    | (go_at_call 172; refine (node_yes _ _ ha).mono ?_; rintro e w' ⟨rfl, rfl⟩)
    | (refine wpList_load_row rfl 84 (.tmp 3) rfl w.heap.size rfl 84 (matA m) (0, 0) _ (heap_alloc2_old _ _ _) Tryz.underlying84 rfl (matInfo m) ?_)
    | (refine wpList_store_row rfl 84 (.tmp 6) (.tmp 21) rfl (w.heap.size + 1) (matA m) rfl rfl 84 _ (heap_alloc2_new _ _ _) (matInfo m) (by rw [matA_size]; rfl) (matA_one _) ?_))
  refine bodyPost_ret (results_row_tmp rfl _ _ (w.heap.size + 1) 84 (matA m) (0, 0) _ _ (.bool false) rfl rfl (setRow_heap _ _ _ _ _ _ (heap_alloc2_new _ _ _)) Tryz.underlying84 (matInfo _)) rfl ⟨rfl, ?_⟩
  exact setRow_below (((Below.refl _ _).alloc (Nat.le_refl _) _).alloc (by simp) _) (by omega)
set_option maxHeartbeats 1000000 in
set_option maxRecDepth 100000 in
theorem put_no3 (m : Mm.Gr) (a : Nat) (w : World) (ha : a < 32) :
    Calls Tryz.prog 147 #[.agg (matA m), .int .i64 (a : Nat), .int .i64 (a : Nat)] w fun e w' => e = .returned (.tuple #[.agg (matA m), .bool false]) ∧ Below w.heap.size w w' := by
  go_enter Tryz.func147, Tryz.ntmps147
  go_wp2_with (first
    | (go_at_call 172; refine (node_yes _ _ ha).mono ?_; rintro e w' ⟨rfl, rfl⟩)
    | (refine wpList_load_row rfl 84 (.tmp 3) rfl w.heap.size rfl 84 (matA m) (0, 0) _ (heap_alloc2_old _ _ _) Tryz.underlying84 rfl (matInfo m) ?_)
    | (refine wpList_store_row rfl 84 (.tmp 6) (.tmp 21) rfl (w.heap.size + 1) (matA m) rfl rfl 84 _ (heap_alloc2_new _ _ _) (matInfo m) (by rw [matA_size]; rfl) (matA_one _) ?_))
  refine bodyPost_ret (results_row_tmp rfl _ _ (w.heap.size + 1) 84 (matA m) (0, 0) _ _ (.bool false) rfl rfl (setRow_heap _ _ _ _ _ _ (heap_alloc2_new _ _ _)) Tryz.underlying84 (matInfo _)) rfl ⟨rfl, ?_⟩
  exact setRow_below (((Below.refl _ _).alloc (Nat.le_refl _) _).alloc (by simp) _) (by omega)
/- Cut -/
set_option maxHeartbeats 1000000 in
set_option maxRecDepth 100000 in
theorem cut_far (m : Mm.Gr) (a : Int) (w : World) (ha : Far a) :
    Calls Tryz.prog 162 #[.agg (matA m), .int .i64 a] w fun e w' => e = .returned (.agg (matA m)) ∧ Below w.heap.size w w' := by
  go_enter Tryz.func162, Tryz.ntmps162
  go_wp2_with (first
    | (go_at_call 172; refine (node_no _ _ ha).mono ?_; rintro e w' ⟨rfl, rfl⟩)
    | (refine wpList_load_row rfl 84 (.tmp 2) rfl w.heap.size rfl 84 (matA m) (0, 0) _ (heap_alloc2_old _ _ _) Tryz.underlying84 rfl (matInfo m) ?_)
    | (refine wpList_store_row rfl 84 (.tmp 4) (.tmp 9) rfl (w.heap.size + 1) (matA m) rfl rfl 84 _ (heap_alloc2_new _ _ _) (matInfo m) (by rw [matA_size]; rfl) (matA_one _) ?_))
  refine bodyPost_ret (results_cell_row rfl _ _ (w.heap.size + 1) 84 (matA m) (0, 0) _ rfl (setRow_heap _ _ _ _ _ _ (heap_alloc2_new _ _ _)) Tryz.underlying84 rfl (matInfo _)) rfl ⟨rfl, ?_⟩
  exact setRow_below (((Below.refl _ _).alloc (Nat.le_refl _) _).alloc (by simp) _) (by omega)
theorem high_and {x : Nat} (h : x < 18446744073709551616) : bits .andNot .u64 (x : Int) 4294967295 = ((x - x % 4294967296 : Nat) : Int) := by
  rw [show (4294967295 : Int) = ((4294967295 : Nat) : Int) from rfl, u64_andNot_nat x _ h (by decide)]
  congr 1
  apply Sm.ext; intro j
  rw [Mm.clr_test, Nat.testBit_and]
  have e : (18446744073709551615 - 4294967295).testBit j = (decide (32 ≤ j) && decide (j < 64)) := by
    have : 18446744073709551615 - 4294967295 = 2 ^ 64 - (4294967295 + 1) := by decide
    rw [this, Nat.testBit_two_pow_sub_succ (by decide), show (4294967295 : Nat) = 2 ^ 32 - 1 from rfl, Nat.testBit_two_pow_sub_one]
    rw [Bool.eq_iff_iff]; simp; omega
  rw [e]
  by_cases hj : j < 64
  · simp [hj]
  · rw [Sm.test_big h (by omega)]; simp
theorem clr_eq {m : Mm.Gr} {a : Nat} (i : Nat) (_ : i < 32) : (if i = a then m a - m a % 4294967296 else m i) = Mm.clr m a i := by
  unfold Mm.clr
  split
  · rename_i h; rw [h]
  · rfl
theorem cutTo_zero (m : Mm.Gr) (a i : Nat) : Mm.clr m a i = Mm.cutTo (Mm.clr m a) a 0 i := by unfold Mm.cutTo; rw [if_neg (by omega)]
theorem cutTo_step (m : Mm.Gr) (a k i : Nat) : (if i = k then Sm.less (Mm.cutTo m a k k) (a : Nat) else Mm.cutTo m a k i) = Mm.cutTo m a (k + 1) i := by
  unfold Mm.cutTo
  by_cases h : i = k
  · subst h; simp
  · by_cases h2 : i < k
    · simp [h, h2, show i < k + 1 from by omega]
    · simp [h, h2, show ¬ i < k + 1 from by omega]
theorem cutTo_all (m : Mm.Gr) (a i : Nat) (h : i < 32) : Mm.cutTo (Mm.clr m a) a 32 i = Mm.cut m a i := by unfold Mm.cutTo Mm.cut; rw [if_pos h]
theorem cutTo_ok {m : Mm.Gr} (a k : Nat) (h : Mm.Ok m) : Mm.Ok (Mm.cutTo m a k) := by
  intro i hi
  unfold Mm.cutTo
  split
  · exact Sm.less_lt _ (h i hi)
  · exact h i hi
theorem less_val (x k y : Nat) (w : World) (hx : x < 18446744073709551616) (hk : k < 64) (h : Sm.less x (k : Nat) = y) :
    Calls Tryz.prog 81 #[.int .u64 x, .int .i64 (k : Nat)] w fun e w' => e = .returned (.int .u64 (y : Nat)) ∧ w = w' := by
  have := less_any x (k : Nat) w hx (by omega) (by omega)
  rw [h] at this
  exact this
def CutRel (m : Mm.Gr) (a t : Nat) (w : World) (i : Value) (wr : World) : Prop :=
  ∃ k : Nat, k ≤ 32 ∧ i = .int .i64 k ∧ MatAt wr w.heap.size (Mm.cutTo (Mm.clr m a) a k) t ∧ MatAt wr (w.heap.size + 1) zeroM t ∧ Below w.heap.size w wr
set_option maxHeartbeats 1000000 in
set_option maxRecDepth 100000 in
theorem cut_in (m : Mm.Gr) (a : Nat) (w : World) (hm : Mm.Ok m) (ha : a < 32) :
    Calls Tryz.prog 162 #[.agg (matA m), .int .i64 (a : Nat)] w fun e w' => e = .returned (.agg (matA (Mm.cut m a))) ∧ Below w.heap.size w w' := by
  have hg := matA_get m a ha
  have hma := hm a ha
  have HA := Lib.hid (high_and hma)
  have HO := Lib.hid (Mm.clr_ok a hm)
  go_enter Tryz.func162, Tryz.ntmps162
  go_wp2_with (go_at_call 172; refine (node_yes _ _ ha).mono ?_; rintro e w' ⟨rfl, rfl⟩)
  go_loopw [15] (CutRel m a 84 w) (fun i _ => 32 - (intOf i).toNat)
  case atStart =>
    refine ⟨0, by omega, rfl, ?_, ?_, ?_⟩
    · rw [HA.out, matA_set]
      exact MatAt.ext (show MatAt _ _ _ _ from heap_alloc2_old _ _ _) fun i hi => (clr_eq i hi).trans (cutTo_zero m a i)
    · unfold MatAt zeroM; rw [matA_zero]; exact heap_alloc2_new _ _ _
    · exact ((Below.refl _ _).alloc (Nat.le_refl _) _).alloc (by simp) _
  case round =>
    obtain ⟨k, hk, rfl, h0, h1, hb⟩ := hrel
    have H0 := Lib.hid h0
    have H1 := Lib.hid h1
    by_cases hlt : k < 32
    · have hc := h0.cell k hlt
      have hf := h0.frozen k
      have hq := cutTo_ok a k HO.out k hlt
      clear h0 h1
      go_wp2_with (go_at_call 81; refine (less_val _ _ _ _ hq (by omega) rfl).mono ?_; rintro e w' ⟨rfl, rfl⟩)
      refine ⟨⟨k + 1, by omega, by go_num, ?_, ?_, hb.setCell (by simp) _⟩, by simp [intOf]; omega⟩
      · exact (matAt_cell H0.out).ext fun i _ => cutTo_step _ a k i
      · exact H1.out.setCell _ _ (by simp)
    · obtain rfl : k = 32 := by omega
      clear h0 h1
      go_wp2_with (first
        | (refine wpList_load_row rfl 84 (.tmp 2) rfl w.heap.size rfl 84 _ (0, 0) _ H0.out Tryz.underlying84 rfl (matInfo _) ?_)
        | (refine wpList_store_row rfl 84 (.tmp 4) (.tmp 26) rfl (w.heap.size + 1) _ rfl rfl 84 _ H1.out (matInfo _) (by rw [matA_size, matA_size]) (matA_one _) ?_))
      rw [matA_ext (cutTo_all m a)]
      refine bodyPost_ret (results_cell_row rfl _ _ (w.heap.size + 1) 84 (matA (Mm.cut m a)) (0, 0) _ rfl (setRow_heap _ _ _ _ _ _ H1.out) Tryz.underlying84 rfl (matInfo _)) rfl ⟨rfl, ?_⟩
      exact setRow_below hb (by omega)
end Go.Proofs.YtfdfiiocccafkaaGreatDoor
namespace Go.Proofs.YtfdfiiocccafkaaGreatDoor
open Go.RowKit
def SpreadJ (nx : Nat → Nat) (x R : Nat) (a0 : Value) (fv : Value) (w : World) (a' : Act) (w' : World) : Prop :=
  ∃ (d o : Nat) (u7 u8 u9 u10 u11 u12 u13 u14 u15 u16 u17 u18 u19 u20 u21 u22 u23 u24 u25 : Value),
    a' = { tmps := #[a0, fv, undef, undef, .int .u64 0, .int .u64 d, .int .u64 o, u7, u8, u9, u10, u11, u12, u13, u14, u15, u16, u17, u18, u19, u20, u21, u22, u23, u24, u25], defers := [] } ∧
    Mm.Inv nx x R d o ∧ Below w.heap.size w w'
theorem open_key {d o y b : Nat} (nx : Nat → Nat) (ho : o < 4294967296) (hy : nx b < 4294967296) (hd : d < 4294967296) (h : nx b = y) :
    bits .andNot .u64 (bits .or .u64 (o : Int) ((y : Nat) : Int)) ((Sm.add d (b : Nat) : Nat) : Int) = ((Mm.openN nx d o b : Nat) : Int) := by
  subst h
  have hor := Mm.or_lt32 ho hy
  rw [bits_or_u64_nat o _ (by omega) (by omega), u64_andNot_nat _ _ (by omega) (Sm.add_lt _ (by omega))]
  rfl
theorem tabAt_new {w : World} (h : TabAt w) (o : Obj) : TabAt (w.alloc o) := h.below ((Below.refl _ w).alloc (Nat.le_refl _) o) h.lt
def FreeRel (m : Mm.Gr) (w : World) (i : Value) (wr : World) : Prop :=
  ∃ k : Nat, k ≤ 32 ∧ i = .int .i64 k ∧ (∀ j, j < k → ¬ Mm.W (Mm.E m) j j) ∧ MatAt wr w.heap.size m 84 ∧ Below w.heap.size w wr
theorem free_yes {m : Mm.Gr} (h : ∀ j, j < 32 → ¬ Mm.W (Mm.E m) j j) : Mm.free m = true := (Mm.free_iff m).2 fun i hw => h i hw.nodes.1 hw
theorem free_no {m : Mm.Gr} {k : Nat} (h : (Mm.ways (Mm.E m) k).testBit k = true) : Mm.free m = false := (Mm.free_not m).2 ⟨k, ((Mm.ways_test _ _ _).1 h).2⟩
end Go.Proofs.YtfdfiiocccafkaaGreatDoor
namespace Go.Proofs.YtfdfiiocccafkaaGreatDoor
open Go.RowKit
/-- are two graphs the same? -/
def sameM (m n : Mm.Gr) : Bool := (List.range 32).all fun i => m i == n i
theorem sameM_iff (m n : Mm.Gr) : sameM m n = true ↔ ∀ i, i < 32 → m i = n i := by
  unfold sameM
  rw [List.all_eq_true]
  simp
theorem plain_set : Tryz.prog.plainKey 82 = true := by kernel_rfl
theorem plain_u64 : Tryz.prog.plainKey 46 = true := by kernel_rfl
theorem cells_set : Tryz.prog.cellsOf 82 = 1 := by kernel_rfl
theorem cells_u64 : Tryz.prog.cellsOf 46 = 1 := by kernel_rfl
theorem eqItems_mat (w : World) (d : Nat) {e : TypeId} (he : Tryz.prog.plainKey e = true) (hu : Tryz.prog.underlying e = some (.int .u64)) (m n : Mm.Gr) (is : List Nat) (h : ∀ i ∈ is, i < 32) :
    (Op.eqItems (d + 1) e 1 (matA m) (matA n) is).run Tryz.prog w = .ok (is.all fun i => m i == n i) w := by
  induction is with
  | nil => simp [Op.eqItems]
  | cons i is ih =>
    have hi := h i (by simp)
    have hcast : (((m i : Nat) : Int) == ((n i : Nat) : Int)) = (m i == n i) := by
      rw [Bool.eq_iff_iff]; simp; omega
    simp only [Op.eqItems, Sem.run_bind, Nat.mul_one, run_part_plain w he (matA_get m i hi), run_part_plain w he (matA_get n i hi), run_equalIn_int w d e .u64 .u64 _ _ hu, Result.andThen_ok, hcast]
    cases hb : (m i == n i)
    · simp [hb]
    · simp [hb, ih (fun j hj => h j (by simp [hj]))]
theorem info_set : (Tryz.prog.info? 82).isSome = true := by kernel_rfl
theorem info_u64 : (Tryz.prog.info? 46).isSome = true := by kernel_rfl
theorem eq_mat (m n : Mm.Gr) (b : Bool) (h : sameM m n = b) (w : World) : (Op.equalIn 10000 84 (.agg (matA m)) (.agg (matA n))).run Tryz.prog w = .ok b w := by
  obtain ⟨i, hi⟩ := Option.isSome_iff_exists.1 info_set
  rw [← h, run_equalIn_array w 9999 (matA m) (matA n) Tryz.underlying84 hi, cells_set]
  exact eqItems_mat w 9998 plain_set Tryz.underlying82 m n _ (by simp)
theorem eq_rmat (m n : Mm.Gr) (b : Bool) (h : sameM m n = b) (w : World) : (Op.equalIn 10000 48 (.agg (matA m)) (.agg (matA n))).run Tryz.prog w = .ok b w := by
  obtain ⟨i, hi⟩ := Option.isSome_iff_exists.1 info_u64
  rw [← h, run_equalIn_array w 9999 (matA m) (matA n) Tryz.underlying48 hi, cells_u64]
  exact eqItems_mat w 9998 plain_u64 Tryz.underlying46 m n _ (by simp)
theorem size_set (w : World) : (sizeOf 82).run Tryz.prog w = .ok 1 w := by
  obtain ⟨i, hi⟩ := Option.isSome_iff_exists.1 info_set
  rw [run_sizeOf w hi, cells_set]
theorem size_u64 (w : World) : (sizeOf 46).run Tryz.prog w = .ok 1 w := by
  obtain ⟨i, hi⟩ := Option.isSome_iff_exists.1 info_u64
  rw [run_sizeOf w hi, cells_u64]
theorem index_mat (m : Mm.Gr) (k : Nat) (h : k < 32) (w : World) : (Instr.index 84 (.agg (matA m)) (.int .i64 (k : Nat))).run Tryz.prog w = .ok (.int .u64 (m k : Nat)) w := by
  have h1 : 0 ≤ (k : Int) ∧ (k : Int) < ((32 : Nat) : Int) := by omega
  simp only [Instr.index, asIntOf, Sem.run_bind, Sem.run_pure, Result.andThen_ok, run_underlying Tryz.underlying84, h1, size_set, Int.toNat_natCast, Nat.mul_one, run_part_plain w plain_set (matA_get m k h), and_self, if_true]
theorem index_rmat (m : Mm.Gr) (k : Nat) (h : k < 32) (w : World) : (Instr.index 48 (.agg (matA m)) (.int .i64 (k : Nat))).run Tryz.prog w = .ok (.int .u64 (m k : Nat)) w := by
  have h1 : 0 ≤ (k : Int) ∧ (k : Int) < ((32 : Nat) : Int) := by omega
  simp only [Instr.index, asIntOf, Sem.run_bind, Sem.run_pure, Result.andThen_ok, run_underlying Tryz.underlying48, h1, size_u64, Int.toNat_natCast, Nat.mul_one, run_part_plain w plain_u64 (matA_get m k h), and_self, if_true]
theorem wpList_load_want {ops : Array Oper} {rest : List Oper} {o : Oper} {a : Act} {w : World} {Q : Exit → Act → World → Prop} (hw : Region.wanted o (yielded ops a.tmps) = true) (ty : TypeId) (x : Operand) (ho : o.op = .load ty x)
    (g : Nat) (hx : a.eval x = .pointer (some ⟨g, 0, none⟩)) (t : TypeId) (cs : Array Value) (fr : Nat × Nat) (n : Nat) (el : TypeId) (hg : w.heap[g]? = some (.cells cs t fr))
    (hu : Tryz.prog.underlying ty = some (.array n el)) (hi : (Tryz.prog.info? ty).map (·.size) = some cs.size)
    (h : wpList Tryz.prog ops Q rest (a.put o.dst (.agg cs)) w) : wpList Tryz.prog ops Q (o :: rest) a w :=
  wpList_step fun _ hK => by rw [if_pos hw]; exact wp_load_row ty x ho g hx t cs fr _ hg hu rfl hi (hK _ _ h)
/- the same graph -/
def upTo (m : Mm.Gr) (k : Nat) : Mm.Gr := fun i => if i < k then m i else 0
theorem upTo_step (m : Mm.Gr) (k i : Nat) : (if i = k then m k else upTo m k i) = upTo m (k + 1) i := by
  unfold upTo
  by_cases h : i = k
  · subst h; simp
  · by_cases h2 : i < k
    · simp [h, h2, show i < k + 1 from by omega]
    · simp [h, h2, show ¬ i < k + 1 from by omega]
def CopyRel (m : Mm.Gr) (t : Nat) (w : World) (i : Value) (wr : World) : Prop :=
  ∃ k : Nat, k ≤ 32 ∧ i = .int .i64 k ∧ MatAt wr (w.heap.size + 1) zeroM t ∧ MatAt wr (w.heap.size + 2) (upTo m k) t ∧ Below w.heap.size w wr
end Go.Proofs.YtfdfiiocccafkaaGreatDoor
namespace Go.Proofs.YtfdfiiocccafkaaGreatDoor
open Go.RowKit
/-- an order as the program holds it. -/
def ordA (o : Od.O) : Array Value := ((List.range 32).map fun i => Value.int .i64 (o i)).toArray
theorem ordA_size (o : Od.O) : (ordA o).size = 32 := by simp [ordA]
theorem ordA_get (o : Od.O) (i : Nat) (h : i < 32) : (ordA o)[i]? = some (.int .i64 (o i)) := by simp [ordA, h]
theorem ordA_ext {o q : Od.O} (h : ∀ i, i < 32 → o i = q i) : ordA o = ordA q := by
  apply Array.ext_getElem?
  intro i
  by_cases hi : i < 32
  · rw [ordA_get o i hi, ordA_get q i hi, h i hi]
  · rw [Array.getElem?_eq_none (by rw [ordA_size]; omega), Array.getElem?_eq_none (by rw [ordA_size]; omega)]
def zeroO : Od.O := fun _ => 0
theorem ordA_zero : ordA zeroO = Array.replicate 32 (Value.int .i64 0) := by
  apply Array.ext_getElem?
  intro i
  by_cases h : i < 32
  · rw [ordA_get _ i h]; simp [h, zeroO]
  · rw [Array.getElem?_eq_none (by rw [ordA_size]; omega), Array.getElem?_eq_none (by simp; omega)]
theorem ordA_set (o : Od.O) (k : Nat) (v : Int) : (ordA o).setIfInBounds k (.int .i64 v) = ordA (Od.upd o k v) := by
  apply Array.ext_getElem?
  intro i
  by_cases h : i < 32
  · rw [Array.getElem?_setIfInBounds, ordA_get (Od.upd o k v) i h, ordA_get o i h]
    unfold Od.upd
    by_cases e : k = i
    · subst e
      simp [ordA_size, h]
    · have : ¬ i = k := fun x => e x.symm
      simp [e, this]
  · rw [Array.getElem?_eq_none (by simp [ordA_size]; omega), Array.getElem?_eq_none (by rw [ordA_size]; omega)]
theorem ordA_one (o : Od.O) : (ordA o).all (·.oneCell') = true := by
  rw [Array.all_eq_true]
  intro i hi
  rw [ordA_size] at hi
  have := ordA_get o i hi
  rw [Array.getElem?_eq_getElem (by rw [ordA_size]; exact hi)] at this
  injection this with this
  rw [this]; rfl
theorem ord_info : (Tryz.prog.info? 85).map (·.size) = some 32 := by kernel_rfl
theorem ordInfo (o : Od.O) : (Tryz.prog.info? 85).map (·.size) = some (ordA o).size := by rw [ordA_size]; exact ord_info
theorem rord_info : (Tryz.prog.info? 50).map (·.size) = some 32 := by kernel_rfl
theorem rordInfo (o : Od.O) : (Tryz.prog.info? 50).map (·.size) = some (ordA o).size := by rw [ordA_size]; exact rord_info
/-- the block g holds the order o. -/
def OrdAt (w : World) (g : Nat) (o : Od.O) (t : Nat) : Prop := w.heap[g]? = some (.cells (ordA o) t (0, 0))
theorem OrdAt.cell {w : World} {g : Nat} {o : Od.O} {t : Nat} (h : OrdAt w g o t) (i : Nat) (hi : i < 32) : w.cell? ⟨g, i, none⟩ = some (.int .i64 (o i)) := by
  rw [cell_of_row _ _ _ _ _ _ h, ordA_get o i hi]
theorem OrdAt.frozen {w : World} {g : Nat} {o : Od.O} {t : Nat} (h : OrdAt w g o t) (i : Nat) : w.frozen? ⟨g, i, none⟩ = false := frozen_of_row h
theorem OrdAt.lt {w : World} {g : Nat} {o : Od.O} {t : Nat} (h : OrdAt w g o t) : g < w.heap.size := (Array.getElem?_eq_some_iff.1 h).1
theorem OrdAt.below {w w' : World} {g : Nat} {o : Od.O} {t : Nat} (h : OrdAt w g o t) (hb : Below w.heap.size w w') : OrdAt w' g o t := (hb.block g h.lt).trans h
theorem OrdAt.alloc {w : World} {g : Nat} {o : Od.O} {t : Nat} (h : OrdAt w g o t) (ob : Obj) : OrdAt (w.alloc ob) g o t := (Below.heap_alloc w ob g h.lt).trans h
theorem OrdAt.setRow {w : World} {g k : Nat} {o : Od.O} {t : Nat} (h : OrdAt w g o t) (cs : Array Value) (hk : g ≠ k) : OrdAt (w.setRow k cs) g o t := (setRow_other w k g cs hk).trans h
theorem OrdAt.drew {w : World} {g : Nat} {o : Od.O} {t : Nat} (h : OrdAt w g o t) : OrdAt w.drew g o t := h
theorem OrdAt.setCell {w : World} {g : Nat} {o : Od.O} {t : Nat} (h : OrdAt w g o t) (a : Addr) (v : Value) (hk : g ≠ a.block) : OrdAt (w.setCell a v) g o t := (Below.heap_setCell w a v g hk).trans h
theorem ordAt_new (w : World) (o : Od.O) (t : Nat) : OrdAt (w.alloc (.cells (ordA o) t)) w.heap.size o t := heap_alloc_new w _
theorem ordAt_put {w : World} {g : Nat} {o q : Od.O} {t : Nat} (h : OrdAt w g o t) : OrdAt (w.setRow g (ordA q)) g q t := setRow_heap _ _ _ _ _ _ h
theorem ordAt_cell {w : World} {g k : Nat} {v : Int} {o : Od.O} {t : Nat} (h : OrdAt w g o t) : OrdAt (w.setCell ⟨g, k, none⟩ (.int .i64 v)) g (Od.upd o k v) t := by
  unfold OrdAt
  rw [heap_set h, ordA_set]
theorem OrdAt.ext {w : World} {g : Nat} {o q : Od.O} {t : Nat} (h : OrdAt w g o t) (e : ∀ i, i < 32 → o i = q i) : OrdAt w g q t := by
  unfold OrdAt; rw [← ordA_ext e]; exact h
theorem zeroO_lit (w : World) (t : Nat) : OrdAt (w.alloc (.cells (Array.replicate 32 (Value.int .i64 0)) t)) w.heap.size zeroO t := by
  unfold OrdAt; rw [ordA_zero]; exact heap_alloc_new _ _
theorem ord_ne {w : World} {g k : Nat} {o : Od.O} {m : Mm.Gr} {t u : Nat} (h : OrdAt w g o t) (h2 : MatAt w k m u) : g ≠ k := by
  rintro rfl
  unfold OrdAt at h
  unfold MatAt at h2
  rw [h] at h2
  injection h2 with h2
  injection h2 with h2 _ _
  have := congrArg (fun a : Array Value => a[0]?) h2
  rw [ordA_get o 0 (by decide), matA_get m 0 (by decide)] at this
  simp at this
/- are two orders the same? -/
def sameO (o q : Od.O) : Bool := (List.range 32).all fun i => o i == q i
theorem sameO_iff (o q : Od.O) : sameO o q = true ↔ ∀ i, i < 32 → o i = q i := by
  unfold sameO
  rw [List.all_eq_true]
  simp
theorem sameO_self (o : Od.O) : sameO o o = true := (sameO_iff o o).2 fun _ _ => rfl
theorem sameM_self (m : Mm.Gr) : sameM m m = true := (sameM_iff m m).2 fun _ _ => rfl
theorem plain_int : Tryz.prog.plainKey 3 = true := by kernel_rfl
theorem cells_int : Tryz.prog.cellsOf 3 = 1 := by kernel_rfl
theorem info_int : (Tryz.prog.info? 3).isSome = true := by kernel_rfl
theorem eqItems_ord (w : World) (d : Nat) (o q : Od.O) (is : List Nat) (h : ∀ i ∈ is, i < 32) :
    (Op.eqItems (d + 1) 3 1 (ordA o) (ordA q) is).run Tryz.prog w = .ok (is.all fun i => o i == q i) w := by
  induction is with
  | nil => simp [Op.eqItems]
  | cons i is ih =>
    have hi := h i (by simp)
    simp only [Op.eqItems, Sem.run_bind, Nat.mul_one, run_part_plain w plain_int (ordA_get o i hi), run_part_plain w plain_int (ordA_get q i hi), run_equalIn_int w d 3 .i64 .i64 _ _ Tryz.underlying3, Result.andThen_ok]
    cases hb : (o i == q i)
    · simp [hb]
    · simp [hb, ih (fun j hj => h j (by simp [hj]))]
theorem eq_ord (o q : Od.O) (b : Bool) (h : sameO o q = b) (w : World) : (Op.equalIn 10000 85 (.agg (ordA o)) (.agg (ordA q))).run Tryz.prog w = .ok b w := by
  obtain ⟨i, hi⟩ := Option.isSome_iff_exists.1 info_int
  rw [← h, run_equalIn_array w 9999 (ordA o) (ordA q) Tryz.underlying85 hi, cells_int]
  exact eqItems_ord w 9998 o q _ (by simp)
theorem eq_rord (o q : Od.O) (b : Bool) (h : sameO o q = b) (w : World) : (Op.equalIn 10000 50 (.agg (ordA o)) (.agg (ordA q))).run Tryz.prog w = .ok b w := by
  obtain ⟨i, hi⟩ := Option.isSome_iff_exists.1 info_int
  rw [← h, run_equalIn_array w 9999 (ordA o) (ordA q) Tryz.underlying50 hi, cells_int]
  exact eqItems_ord w 9998 o q _ (by simp)
theorem size_int (w : World) : (sizeOf 3).run Tryz.prog w = .ok 1 w := by
  obtain ⟨i, hi⟩ := Option.isSome_iff_exists.1 info_int
  rw [run_sizeOf w hi, cells_int]
theorem index_ord (o : Od.O) (k : Nat) (h : k < 32) (w : World) : (Instr.index 85 (.agg (ordA o)) (.int .i64 (k : Nat))).run Tryz.prog w = .ok (.int .i64 (o k)) w := by
  have h1 : 0 ≤ (k : Int) ∧ (k : Int) < ((32 : Nat) : Int) := by omega
  simp only [Instr.index, asIntOf, Sem.run_bind, Sem.run_pure, Result.andThen_ok, run_underlying Tryz.underlying85, h1, size_int, Int.toNat_natCast, Nat.mul_one, run_part_plain w plain_int (ordA_get o k h), and_self, if_true]
/- the table; what is there -/
theorem zero_ok : Mm.Ok zeroM := fun _ _ => by simp [zeroM]
theorem zero_E (i j : Nat) : ¬ Mm.E zeroM i j := fun h => by simp [Mm.E, zeroM] at h
theorem tab_below {w w' : World} (h : TabAt w) (hb : Below w.heap.size w w') : TabAt w' := h.below hb h.lt
theorem tab_row {w : World} {g : Nat} {cs : Array Value} (h : TabAt w) (hg : 0 ≠ g) : TabAt (w.setRow g cs) := fun j hj => (cell_setRow_other w g cs ⟨0, j, none⟩ hg).trans (h j hj)
theorem below_new (W : World) (o : Obj) : Below W.heap.size W (W.alloc o) := (Below.refl _ _).alloc (Nat.le_refl _) _
theorem below_drew (W : World) : Below W.heap.size W W.drew := (Below.refl _ _).drew
theorem below_drewN {B : Nat} {a w : World} (h : Below B a w) (n : Nat) : Below B a (w.drewN n) := ⟨h.os, h.tape, h.output, h.size, h.block⟩
theorem cell_lt {w : World} {p : Addr} {v : Value} (h : w.cell? p = some v) : p.block < w.heap.size := by
  rcases Nat.lt_or_ge p.block w.heap.size with hl | hg
  · exact hl
  · simp [World.cell?, Array.getElem?_eq_none hg] at h
theorem add_block (a : Addr) (n : Nat) : (a.add n).block = a.block := by unfold Addr.add; split <;> rfl
/- for regions that draw their order -/
theorem yields_row {ops : Array Oper} {S : World → Prop} {op : Oper} {a : Act} (hw : Region.wanted op (yielded ops a.tmps) = true) (ty : TypeId) (x : Operand) (ho : op.op = .load ty x)
    (b : Nat) (hx : a.eval x = .pointer (some ⟨b, 0, none⟩)) (t : Nat) (cs : Array Value) {n : Nat} {el : TypeId} (hS : ∀ w, S w → w.heap[b]? = some (.cells cs t (0, 0)))
    (hu : Tryz.prog.underlying ty = some (.array n el)) (hi : (Tryz.prog.info? ty).map (·.size) = some cs.size) : YieldsIf Tryz.prog ops S op (.agg cs) a :=
  .inl ⟨hw, fun w hw' => by
    unfold execOp
    simp only [ho, hx, Instr.loadAt, Instr.sureAddr, Sem.run_bind, Sem.run_pure, Result.andThen_ok, run_loadVar_row w b t ty cs (0, 0) _ (hS w hw') hu rfl hi]⟩
theorem take_at {ops : Array Oper} {Q : Exit → Act → World → Prop} {md : Region.Mode} {S : World → Prop} (i d : Nat) (v : Value) {oi : Oper} {fuel : Nat} {listed : Array Bool} {a : Act} {w : World} (hi : ops[i]? = some oi) (hd : oi.dst = some d)
    (hs : Region.noSelect ops = true) (hf : Region.free md ops listed i = true) (hr : (Region.ready md ops listed).contains i = true)
    (hQ : ∀ c a w, Q (.panic c) (a.put oi.dst v) w → Q (.panic c) a w) (hy : YieldsIf Tryz.prog ops S oi v a) (hS : S w)
    (h : wpAnyH Tryz.prog md ops Q S fuel (listed.setIfInBounds i true) (a.put (some d) v) w) : wpAnyH Tryz.prog md ops Q S (fuel + 1) listed a w :=
  wpAnyH_take hi hs hf hr hQ hy hS (by rw [hd]; exact h)
theorem region_start {id : Nat} {ops : Array Oper} {Q : Exit → Act → World → Prop} {S : World → Prop} {a : Act} {w : World} (n : Nat) (hn : ops.size = n) (hm : Tryz.prog.follows .mixedOrders = true) (hS : S w.drew)
    (h : S w.drew → wpAnyH Tryz.prog .any ops Q S n (Array.replicate n false) a w.drew) : (Code.region id ops true).wp Tryz.prog Q a w := by
  subst hn
  exact wp_region_held_drew hm hS h
end Go.Proofs.YtfdfiiocccafkaaGreatDoor
