/-
  The contract of the statements' own first look: the answers that the document fixes are given; nothing that was there is changed.
-/
import Derived.Test.YtjciikdhjgekgaaDoorMatSame
import Derived.Deep.WholeRow
namespace Go.Proofs.YtjciikdhjgekgaaDoor
open Go.RowKit
def g1 : Mm.Gr := Mm.put zeroM 0 1
def g2 : Mm.Gr := Mm.put g1 1 2
def g3 : Mm.Gr := Mm.put g2 2 0
theorem zero_ok : Mm.Ok zeroM := fun _ _ => by simp [zeroM]
theorem g1_ok : Mm.Ok g1 := Mm.put_ok _ _ zero_ok
theorem g2_ok : Mm.Ok g2 := Mm.put_ok _ _ g1_ok
theorem g3_ok : Mm.Ok g3 := Mm.put_ok _ _ g2_ok
theorem zero_E (i j : Nat) : ¬ Mm.E zeroM i j := fun h => by simp [Mm.E, zeroM] at h
theorem g1_E (i j : Nat) : Mm.E g1 i j ↔ i = 0 ∧ j = 1 := by
  unfold g1; rw [Mm.put_E (by decide) (by decide)]; simp [zero_E]
theorem g2_E (i j : Nat) : Mm.E g2 i j ↔ (i = 0 ∧ j = 1) ∨ (i = 1 ∧ j = 2) := by
  unfold g2; rw [Mm.put_E (by decide) (by decide), g1_E]
theorem g3_E (i j : Nat) : Mm.E g3 i j ↔ ((i = 0 ∧ j = 1) ∨ (i = 1 ∧ j = 2)) ∨ (i = 2 ∧ j = 0) := by
  unfold g3; rw [Mm.put_E (by decide) (by decide), g2_E]
theorem bits_lt {x j n : Nat} (hx : x < 2 ^ n) (h : x.testBit j = true) : j < n := by
  apply Classical.byContradiction
  intro hn
  rw [Nat.testBit_lt_two_pow (Nat.lt_of_lt_of_le hx (Nat.pow_le_pow_right (by decide) (by omega)))] at h
  cases h
theorem g2_reach : Mm.ways (Mm.E g2) 0 = 6 := by
  symm
  apply Mm.ways_eq
  intro j
  have e01 : Mm.E g2 0 1 := (g2_E _ _).2 (.inl ⟨rfl, rfl⟩)
  have e12 : Mm.E g2 1 2 := (g2_E _ _).2 (.inr ⟨rfl, rfl⟩)
  constructor
  · intro h
    have hj := bits_lt (n := 3) (by decide) h
    have : j = 1 ∨ j = 2 := by
      rcases (by omega : j = 0 ∨ j = 1 ∨ j = 2) with rfl | h1
      · simp at h
      · exact h1
    rcases this with rfl | rfl
    · exact ⟨by decide, .one e01⟩
    · exact ⟨by decide, .more (.one e01) e12⟩
  · rintro ⟨_, h⟩
    cases h with
    | one h' => rcases (g2_E _ _).1 h' with ⟨_, rfl⟩ | ⟨_, rfl⟩ <;> decide
    | more _ h' => rcases (g2_E _ _).1 h' with ⟨_, rfl⟩ | ⟨_, rfl⟩ <;> decide
theorem g2_back : Mm.ways (fun i j => Mm.E g2 j i) 2 = 3 := by
  symm
  apply Mm.ways_eq
  intro j
  have e01 : Mm.E g2 0 1 := (g2_E _ _).2 (.inl ⟨rfl, rfl⟩)
  have e12 : Mm.E g2 1 2 := (g2_E _ _).2 (.inr ⟨rfl, rfl⟩)
  rw [Mm.flip_way]
  constructor
  · intro h
    have hj := bits_lt (n := 2) (by decide) h
    have : j = 0 ∨ j = 1 := by omega
    rcases this with rfl | rfl
    · exact ⟨by decide, .more (.one e01) e12⟩
    · exact ⟨by decide, .one e12⟩
  · rintro ⟨_, h⟩
    rcases h.cases_head with h' | ⟨_, h', _⟩ <;> rcases (g2_E _ _).1 h' with ⟨rfl, _⟩ | ⟨rfl, _⟩ <;> decide
theorem g2_free : Mm.free g2 = true := by
  rw [Mm.free_iff]
  have up : ∀ i j, Mm.W (Mm.E g2) i j → i < j := by
    intro i j h
    induction h with
    | one h' => rcases (g2_E _ _).1 h' with ⟨rfl, rfl⟩ | ⟨rfl, rfl⟩ <;> decide
    | more _ h' ih => rcases (g2_E _ _).1 h' with ⟨rfl, rfl⟩ | ⟨rfl, rfl⟩ <;> omega
  intro i h
  have := up i i h
  omega
theorem g3_free : Mm.free g3 = false := by
  rw [Mm.free_not]
  exact ⟨0, .more (.more (.one ((g3_E 0 1).2 (.inl (.inl ⟨rfl, rfl⟩)))) ((g3_E 1 2).2 (.inl (.inr ⟨rfl, rfl⟩)))) ((g3_E 2 0).2 (.inr ⟨rfl, rfl⟩))⟩
theorem g2_outs : Mm.outs g2 1 = 4 := by decide +kernel
theorem g2_ins : Mm.ins g2 1 = 1 := by decide +kernel
theorem g2_has : edge g2 ((0 : Nat) : Int) 1 = true := by decide +kernel
def lastM : Mm.Gr := fun i => if i = 2 then 1 else 0
theorem g3_cut : sameM (Mm.cut g3 1) lastM = true := by decide +kernel
theorem zero_row : matA zeroM = #[Value.int IntKind.u64 0, Value.int IntKind.u64 0, Value.int IntKind.u64 0, Value.int IntKind.u64 0, Value.int IntKind.u64 0, Value.int IntKind.u64 0, Value.int IntKind.u64 0, Value.int IntKind.u64 0, Value.int IntKind.u64 0, Value.int IntKind.u64 0, Value.int IntKind.u64 0, Value.int IntKind.u64 0, Value.int IntKind.u64 0, Value.int IntKind.u64 0, Value.int IntKind.u64 0, Value.int IntKind.u64 0, Value.int IntKind.u64 0, Value.int IntKind.u64 0, Value.int IntKind.u64 0, Value.int IntKind.u64 0, Value.int IntKind.u64 0, Value.int IntKind.u64 0, Value.int IntKind.u64 0, Value.int IntKind.u64 0, Value.int IntKind.u64 0, Value.int IntKind.u64 0, Value.int IntKind.u64 0, Value.int IntKind.u64 0, Value.int IntKind.u64 0, Value.int IntKind.u64 0, Value.int IntKind.u64 0, Value.int IntKind.u64 0] := (show matA zeroM = Array.replicate 32 (Value.int .u64 0) from matA_zero).trans rfl
theorem last_row : matA lastM = #[Value.int IntKind.u64 0, Value.int IntKind.u64 0, Value.int IntKind.u64 1, Value.int IntKind.u64 0, Value.int IntKind.u64 0, Value.int IntKind.u64 0, Value.int IntKind.u64 0, Value.int IntKind.u64 0, Value.int IntKind.u64 0, Value.int IntKind.u64 0, Value.int IntKind.u64 0, Value.int IntKind.u64 0, Value.int IntKind.u64 0, Value.int IntKind.u64 0, Value.int IntKind.u64 0, Value.int IntKind.u64 0, Value.int IntKind.u64 0, Value.int IntKind.u64 0, Value.int IntKind.u64 0, Value.int IntKind.u64 0, Value.int IntKind.u64 0, Value.int IntKind.u64 0, Value.int IntKind.u64 0, Value.int IntKind.u64 0, Value.int IntKind.u64 0, Value.int IntKind.u64 0, Value.int IntKind.u64 0, Value.int IntKind.u64 0, Value.int IntKind.u64 0, Value.int IntKind.u64 0, Value.int IntKind.u64 0, Value.int IntKind.u64 0] := by kernel_rfl
theorem put01 (w : World) : Calls Tryd.prog 12 #[.agg #[Value.int IntKind.u64 0, Value.int IntKind.u64 0, Value.int IntKind.u64 0, Value.int IntKind.u64 0, Value.int IntKind.u64 0, Value.int IntKind.u64 0, Value.int IntKind.u64 0, Value.int IntKind.u64 0, Value.int IntKind.u64 0, Value.int IntKind.u64 0, Value.int IntKind.u64 0, Value.int IntKind.u64 0, Value.int IntKind.u64 0, Value.int IntKind.u64 0, Value.int IntKind.u64 0, Value.int IntKind.u64 0, Value.int IntKind.u64 0, Value.int IntKind.u64 0, Value.int IntKind.u64 0, Value.int IntKind.u64 0, Value.int IntKind.u64 0, Value.int IntKind.u64 0, Value.int IntKind.u64 0, Value.int IntKind.u64 0, Value.int IntKind.u64 0, Value.int IntKind.u64 0, Value.int IntKind.u64 0, Value.int IntKind.u64 0, Value.int IntKind.u64 0, Value.int IntKind.u64 0, Value.int IntKind.u64 0, Value.int IntKind.u64 0], .int .i64 0, .int .i64 1] w fun e w' => e = .returned (.tuple #[.agg (matA g1), .bool true]) ∧ Below w.heap.size w w' := by
  rw [← zero_row]; exact put_yes zeroM 0 1 w zero_ok (by decide) (by decide) (by decide)
theorem put12 (w : World) : Calls Tryd.prog 12 #[.agg (matA g1), .int .i64 1, .int .i64 2] w fun e w' => e = .returned (.tuple #[.agg (matA g2), .bool true]) ∧ Below w.heap.size w w' :=
  put_yes g1 1 2 w g1_ok (by decide) (by decide) (by decide)
theorem put20 (w : World) : Calls Tryd.prog 12 #[.agg (matA g2), .int .i64 2, .int .i64 0] w fun e w' => e = .returned (.tuple #[.agg (matA g3), .bool true]) ∧ Below w.heap.size w w' :=
  put_yes g2 2 0 w g2_ok (by decide) (by decide) (by decide)
theorem put11 (w : World) : Calls Tryd.prog 12 #[.agg (matA g2), .int .i64 1, .int .i64 1] w fun e w' => e = .returned (.tuple #[.agg (matA g2), .bool false]) ∧ Below w.heap.size w w' :=
  put_no3 g2 1 w (by decide)
theorem reach0 (w : World) (hT : TabAt w) : Calls Tryd.prog 23 #[.agg (matA g2), .int .i64 0] w fun e w' => e = .returned (.int .u64 6) ∧ Below w.heap.size w w' := by
  have := reach_in g2 0 w g2_ok (by decide) hT
  rw [g2_reach] at this; exact this
theorem back2 (w : World) (hT : TabAt w) : Calls Tryd.prog 25 #[.agg (matA g2), .int .i64 2] w fun e w' => e = .returned (.int .u64 3) ∧ Below w.heap.size w w' := by
  have := back_in g2 2 w g2_ok (by decide) hT
  rw [g2_back] at this; exact this
theorem outs1 (w : World) : Calls Tryd.prog 19 #[.agg (matA g2), .int .i64 1] w fun e w' => e = .returned (.int .u64 4) ∧ Below w.heap.size w w' := by
  have := outs_in g2 1 w g2_ok (by decide)
  rw [g2_outs] at this; exact this
theorem ins1 (w : World) : Calls Tryd.prog 21 #[.agg (matA g2), .int .i64 1] w fun e w' => e = .returned (.int .u64 1) ∧ Below w.heap.size w w' := by
  have := ins_in g2 1 w g2_ok (by decide)
  rw [g2_ins] at this; exact this
theorem has01 (w : World) : Calls Tryd.prog 17 #[.agg (matA g2), .int .i64 0, .int .i64 1] w fun e w' => e = .returned (.bool true) ∧ Below w.heap.size w w' := by
  have := mhas_in g2 0 1 w g2_ok (by decide) (by decide) (by decide)
  rw [g2_has] at this; exact this
theorem free2 (w : World) (hT : TabAt w) : Calls Tryd.prog 26 #[.agg (matA g2)] w fun e w' => e = .returned (.bool true) ∧ Below w.heap.size w w' := by
  have := free_any g2 w g2_ok hT
  rw [g2_free] at this; exact this
theorem free3 (w : World) (hT : TabAt w) : Calls Tryd.prog 26 #[.agg (matA g3)] w fun e w' => e = .returned (.bool false) ∧ Below w.heap.size w w' := by
  have := free_any g3 w g3_ok hT
  rw [g3_free] at this; exact this
theorem cut1 (w : World) : Calls Tryd.prog 15 #[.agg (matA g3), .int .i64 1] w fun e w' => e = .returned (.agg (matA (Mm.cut g3 1))) ∧ Below w.heap.size w w' := cut_in g3 1 w g3_ok (by decide)
theorem eq_last (w : World) : (Op.equalIn 10000 28 (.agg (matA (Mm.cut g3 1))) (.agg #[Value.int IntKind.u64 0, Value.int IntKind.u64 0, Value.int IntKind.u64 1, Value.int IntKind.u64 0, Value.int IntKind.u64 0, Value.int IntKind.u64 0, Value.int IntKind.u64 0, Value.int IntKind.u64 0, Value.int IntKind.u64 0, Value.int IntKind.u64 0, Value.int IntKind.u64 0, Value.int IntKind.u64 0, Value.int IntKind.u64 0, Value.int IntKind.u64 0, Value.int IntKind.u64 0, Value.int IntKind.u64 0, Value.int IntKind.u64 0, Value.int IntKind.u64 0, Value.int IntKind.u64 0, Value.int IntKind.u64 0, Value.int IntKind.u64 0, Value.int IntKind.u64 0, Value.int IntKind.u64 0, Value.int IntKind.u64 0, Value.int IntKind.u64 0, Value.int IntKind.u64 0, Value.int IntKind.u64 0, Value.int IntKind.u64 0, Value.int IntKind.u64 0, Value.int IntKind.u64 0, Value.int IntKind.u64 0, Value.int IntKind.u64 0])).run Tryd.prog w = .ok true w := by
  rw [← last_row]; exact eq_mat _ _ true g3_cut w
theorem tab_below {w w' : World} (h : TabAt w) (hb : Below w.heap.size w w') : TabAt w' := h.below hb h.lt
theorem tab_row {w : World} {g : Nat} {cs : Array Value} (h : TabAt w) (hg : 0 ≠ g) : TabAt (w.setRow g cs) := fun j hj => (cell_setRow_other w g cs ⟨0, j, none⟩ hg).trans (h j hj)
set_option maxHeartbeats 2000000 in
set_option maxRecDepth 100000 in
theorem alive_any (w : World) (hT : TabAt w) : Calls Tryd.prog 10 #[] w fun e w' => e = .returned (.bool true) ∧ Below w.heap.size w w' := by
  have HT := Lib.hid hT
  clear hT
  go_enter Tryd.func10, Tryd.ntmps10
  go_wp2_with fail
  refine (put01 _).mono ?_
  rintro e w1 ⟨rfl, hb1⟩
  have hs1 := hb1.size
  have HT1 := Lib.hid (tabAt_new (tab_below HT.out hb1) (.cells (matA g1) 28))
  have HB1 := Lib.hid (hb1.alloc hs1 (.cells (matA g1) 28))
  go_wp2_with (first
    | (refine wpList_store_row rfl 28 (.tmp 1) (.tmp 11) rfl w1.heap.size (matA g1) rfl rfl 28 _ (heap_alloc_new _ _) (matInfo _) (by rw [matA_size]; rfl) (matA_one _) ?_; rw [World.setRow_alloc_new])
    | (refine wpList_load_row rfl 28 (.tmp 1) rfl w1.heap.size rfl 28 (matA g1) (0, 0) _ (heap_alloc_new _ _) Tryd.underlying28 rfl (matInfo _) ?_))
  refine (put12 _).mono ?_
  rintro e w2 ⟨rfl, hb2⟩
  have HM2 := Lib.hid ((matAt_new w1 g1 28).below hb2)
  have HT2 := Lib.hid (tab_row (g := w1.heap.size) (cs := matA g2) (tab_below HT1.out hb2) (by have := HT.out.lt; omega))
  have HB2 := Lib.hid (setRow_below (cs := matA g2) (HB1.out.trans (hb2.mono HB1.out.size)) hs1)
  have HM2' := Lib.hid (matAt_put (n := g2) HM2.out)
  go_wp2_with (first
    | (refine wpList_store_row rfl 28 (.tmp 1) (.tmp 16) rfl w1.heap.size (matA g2) rfl rfl 28 _ HM2.out (matInfo _) (by rw [matA_size, matA_size]) (matA_one _) ?_)
    | (refine wpList_load_row rfl 28 (.tmp 1) rfl w1.heap.size rfl 28 (matA g2) (0, 0) _ HM2'.out Tryd.underlying28 rfl (matInfo _) ?_))
  refine (put20 _).mono ?_
  rintro e w3 ⟨rfl, hb3⟩
  have HM3 := Lib.hid ((HM2'.out.below hb3).alloc (.cells (matA g3) 28))
  have HT3 := Lib.hid (tabAt_new (tab_below HT2.out hb3) (.cells (matA g3) 28))
  have HB3 := Lib.hid ((HB2.out.trans (hb3.mono HB2.out.size)).alloc (Nat.le_trans HB2.out.size hb3.size) (.cells (matA g3) 28))
  have HN3 := Lib.hid (matAt_new w3 g3 28)
  go_wp2_with (first
    | (refine wpList_store_row rfl 28 (.tmp 4) (.tmp 21) rfl w3.heap.size (matA g3) rfl rfl 28 _ (heap_alloc_new _ _) (matInfo _) (by rw [matA_size]; rfl) (matA_one _) ?_; rw [World.setRow_alloc_new])
    | (refine wpList_load_row rfl 28 (.tmp 1) rfl w1.heap.size rfl 28 (matA g2) (0, 0) _ HM3.out Tryd.underlying28 rfl (matInfo _) ?_))
  refine (put11 _).mono ?_
  rintro e w4 ⟨rfl, hb4⟩
  have HM4 := Lib.hid ((HM3.out.below hb4).alloc (.cells (matA g2) 28))
  have HT4 := Lib.hid (tabAt_new (tab_below HT3.out hb4) (.cells (matA g2) 28))
  have HB4 := Lib.hid ((HB3.out.trans (hb4.mono HB3.out.size)).alloc (Nat.le_trans HB3.out.size hb4.size) (.cells (matA g2) 28))
  have HN4 := Lib.hid ((HN3.out.below hb4).alloc (.cells (matA g2) 28))
  go_wp2_with (first
    | (refine wpList_store_row rfl 28 (.tmp 6) (.tmp 26) rfl w4.heap.size (matA g2) rfl rfl 28 _ (heap_alloc_new _ _) (matInfo _) (by rw [matA_size]; rfl) (matA_one _) ?_; rw [World.setRow_alloc_new])
    | (refine wpList_load_want rfl 28 (.tmp 1) rfl w1.heap.size rfl 28 (matA g2) (0, 0) _ _ HM4.out Tryd.underlying28 (matInfo _) ?_))
  refine (reach0 _ HT4.out).mono ?_
  rintro e w5 ⟨rfl, hb5⟩
  have HM5 := Lib.hid (HM4.out.below hb5)
  have HT5 := Lib.hid (tab_below HT4.out hb5)
  have HB5 := Lib.hid (HB4.out.trans (hb5.mono HB4.out.size))
  have HN5 := Lib.hid (HN4.out.below hb5)
  clear HM4 HT4 HB4 HN4 hb5
  go_wp2_with (refine wpList_load_want rfl 28 (.tmp 1) rfl w1.heap.size rfl 28 (matA g2) (0, 0) _ _ HM5.out Tryd.underlying28 (matInfo _) ?_)
  refine (back2 _ HT5.out).mono ?_
  rintro e w6 ⟨rfl, hb6⟩
  have HM6 := Lib.hid (HM5.out.below hb6)
  have HT6 := Lib.hid (tab_below HT5.out hb6)
  have HB6 := Lib.hid (HB5.out.trans (hb6.mono HB5.out.size))
  have HN6 := Lib.hid (HN5.out.below hb6)
  clear HM5 HT5 HB5 HN5 hb6
  go_wp2_with (refine wpList_load_want rfl 28 (.tmp 1) rfl w1.heap.size rfl 28 (matA g2) (0, 0) _ _ HM6.out Tryd.underlying28 (matInfo _) ?_)
  refine (outs1 _).mono ?_
  rintro e w7 ⟨rfl, hb7⟩
  have HM7 := Lib.hid (HM6.out.below hb7)
  have HT7 := Lib.hid (tab_below HT6.out hb7)
  have HB7 := Lib.hid (HB6.out.trans (hb7.mono HB6.out.size))
  have HN7 := Lib.hid (HN6.out.below hb7)
  clear HM6 HT6 HB6 HN6 hb7
  go_wp2_with (refine wpList_load_want rfl 28 (.tmp 1) rfl w1.heap.size rfl 28 (matA g2) (0, 0) _ _ HM7.out Tryd.underlying28 (matInfo _) ?_)
  refine (ins1 _).mono ?_
  rintro e w8 ⟨rfl, hb8⟩
  have HM8 := Lib.hid (HM7.out.below hb8)
  have HT8 := Lib.hid (tab_below HT7.out hb8)
  have HB8 := Lib.hid (HB7.out.trans (hb8.mono HB7.out.size))
  have HN8 := Lib.hid (HN7.out.below hb8)
  clear HM7 HT7 HB7 HN7 hb8
  go_wp2_with (refine wpList_load_want rfl 28 (.tmp 1) rfl w1.heap.size rfl 28 (matA g2) (0, 0) _ _ HM8.out Tryd.underlying28 (matInfo _) ?_)
  refine (has01 _).mono ?_
  rintro e w9 ⟨rfl, hb9⟩
  have HM9 := Lib.hid (HM8.out.below hb9)
  have HT9 := Lib.hid (tab_below HT8.out hb9)
  have HB9 := Lib.hid (HB8.out.trans (hb9.mono HB8.out.size))
  have HN9 := Lib.hid (HN8.out.below hb9)
  clear HM8 HT8 HB8 HN8 hb9
  go_wp2_with (refine wpList_load_want rfl 28 (.tmp 1) rfl w1.heap.size rfl 28 (matA g2) (0, 0) _ _ HM9.out Tryd.underlying28 (matInfo _) ?_)
  refine (free2 _ HT9.out).mono ?_
  rintro e w10 ⟨rfl, hb10⟩
  have HM10 := Lib.hid (HM9.out.below hb10)
  have HT10 := Lib.hid (tab_below HT9.out hb10)
  have HB10 := Lib.hid (HB9.out.trans (hb10.mono HB9.out.size))
  have HN10 := Lib.hid (HN9.out.below hb10)
  clear HM9 HT9 HB9 HN9 hb10
  go_wp2_with (refine wpList_load_want rfl 28 (.tmp 4) rfl w3.heap.size rfl 28 (matA g3) (0, 0) _ _ HN10.out Tryd.underlying28 (matInfo _) ?_)
  refine (free3 _ HT10.out).mono ?_
  rintro e w11 ⟨rfl, hb11⟩
  have HM11 := Lib.hid (HM10.out.below hb11)
  have HT11 := Lib.hid (tab_below HT10.out hb11)
  have HB11 := Lib.hid (HB10.out.trans (hb11.mono HB10.out.size))
  have HN11 := Lib.hid (HN10.out.below hb11)
  clear HM10 HT10 HB10 HN10 hb11
  go_wp2_with (refine wpList_load_want rfl 28 (.tmp 4) rfl w3.heap.size rfl 28 (matA g3) (0, 0) _ _ HN11.out Tryd.underlying28 (matInfo _) ?_)
  refine (cut1 _).mono ?_
  rintro e w12 ⟨rfl, hb12⟩
  have HM12 := Lib.hid (HM11.out.below hb12)
  have HT12 := Lib.hid (tab_below HT11.out hb12)
  have HB12 := Lib.hid (HB11.out.trans (hb12.mono HB11.out.size))
  have HN12 := Lib.hid (HN11.out.below hb12)
  clear HM11 HT11 HB11 HN11 hb12
  have hE := eq_last w12
  go_wp2
  go_ret
  exact ⟨rfl, HB12.out⟩
end Go.Proofs.YtjciikdhjgekgaaDoor
