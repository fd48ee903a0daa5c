/-
  Plain mathematics of sets of small numbers as natural numbers below two to the 64th: what with, less, has, items and count are, and how they go together. Nothing of the program.
-/
namespace Go.Proofs.Ytcfdndppkpjleaa.Sm

def bit (i : Int) : Nat := if 0 ≤ i ∧ i ≤ 63 then 2 ^ i.toNat else 0
def has (x : Nat) (i : Int) : Bool := decide (0 ≤ i) && (decide (i ≤ 63) && x.testBit i.toNat)
def add (x : Nat) (i : Int) : Nat := x ||| bit i
def less (x : Nat) (i : Int) : Nat := x &&& (18446744073709551615 - bit i)
def items (x : Nat) : List Nat := (List.range 64).filter fun i => x.testBit i
def count (x : Nat) : Nat := (items x).length

theorem bit_in {i : Int} (h0 : 0 ≤ i) (h1 : i ≤ 63) : bit i = 2 ^ i.toNat := by unfold bit; rw [if_pos ⟨h0, h1⟩]
theorem bit_out {i : Int} (h : i < 0 ∨ 63 < i) : bit i = 0 := by unfold bit; rw [if_neg (by omega)]
theorem bit_lt (i : Int) : bit i < 18446744073709551616 := by
  unfold bit
  split
  · rename_i h
    have : (2 : Nat) ^ i.toNat < 2 ^ 64 := Nat.pow_lt_pow_right (by decide) (by omega)
    simpa using this
  · decide
theorem bit_test (i : Int) (j : Nat) : (bit i).testBit j = decide (0 ≤ i ∧ i ≤ 63 ∧ (j : Int) = i) := by
  unfold bit
  split
  · rename_i h
    rw [Nat.testBit_two_pow]
    rw [Bool.eq_iff_iff]; simp; omega
  · rename_i h
    rw [Nat.zero_testBit, eq_comm, decide_eq_false_iff_not]
    omega
theorem has_and (x : Nat) (i : Int) : has x i = ((x &&& bit i) != 0) := by
  unfold has
  by_cases h : 0 ≤ i ∧ i ≤ 63
  · have e : (x &&& bit i != 0) = x.testBit i.toNat := by
      rw [bit_in h.1 h.2]
      cases hx : x.testBit i.toNat
      · have : x &&& 2 ^ i.toNat = 0 := by
          apply Nat.eq_of_testBit_eq; intro j
          rw [Nat.testBit_and, Nat.testBit_two_pow, Nat.zero_testBit]
          by_cases hj : i.toNat = j
          · subst hj; simp [hx]
          · simp [hj]
        simp [this]
      · have : x &&& 2 ^ i.toNat ≠ 0 := by
          intro hz
          have := congrArg (fun n => n.testBit i.toNat) hz
          rw [Nat.zero_testBit] at this
          simp [Nat.testBit_and, hx] at this
        simp [this]
    rw [e, decide_eq_true h.1, decide_eq_true h.2]; rfl
  · rw [bit_out (by omega)]
    simp
    intro h0 h1
    omega
theorem add_test (x : Nat) (i : Int) (j : Nat) : (add x i).testBit j = (x.testBit j || decide (0 ≤ i ∧ i ≤ 63 ∧ (j : Int) = i)) := by
  unfold add; rw [Nat.testBit_or, bit_test]
theorem add_lt {x : Nat} (i : Int) (h : x < 18446744073709551616) : add x i < 18446744073709551616 := by
  have := Nat.or_lt_two_pow (n := 64) (x := x) (y := bit i) (by simpa using h) (by simpa using bit_lt i)
  simpa [add] using this
theorem less_lt {x : Nat} (i : Int) (h : x < 18446744073709551616) : less x i < 18446744073709551616 :=
  Nat.lt_of_le_of_lt Nat.and_le_left h
theorem less_test {x : Nat} (i : Int) (j : Nat) (h : x < 18446744073709551616) : (less x i).testBit j = (x.testBit j && !decide (0 ≤ i ∧ i ≤ 63 ∧ (j : Int) = i)) := by
  unfold less
  rw [Nat.testBit_and]
  have e : 18446744073709551615 - bit i = 2 ^ 64 - (bit i + 1) := by
    show 18446744073709551615 - bit i = 18446744073709551616 - (bit i + 1)
    omega
  rw [e, Nat.testBit_two_pow_sub_succ (by simpa using bit_lt i), bit_test]
  by_cases hj : j < 64
  · simp [hj]
  · have : x.testBit j = false := Nat.testBit_lt_two_pow (Nat.lt_of_lt_of_le h (by
      have : (2 : Nat) ^ 64 ≤ 2 ^ j := Nat.pow_le_pow_right (by decide) (by omega)
      simpa using this))
    simp [this]
theorem test_big {x j : Nat} (h : x < 18446744073709551616) (hj : 64 ≤ j) : x.testBit j = false :=
  Nat.testBit_lt_two_pow (Nat.lt_of_lt_of_le h (by
      have : (2 : Nat) ^ 64 ≤ 2 ^ j := Nat.pow_le_pow_right (by decide) hj
      simpa using this))
theorem has_nat {x : Nat} (k : Nat) (h : x < 18446744073709551616) : has x (k : Int) = x.testBit k := by
  unfold has
  by_cases hk : k < 64
  · have : (k : Int) ≤ 63 := by omega
    simp [this]
  · have := test_big (j := k) h (by omega)
    simp [this]
theorem has_eq {x : Nat} (i : Int) (h0 : 0 ≤ i) (h : x < 18446744073709551616) : has x i = x.testBit i.toNat := by
  obtain ⟨n, rfl⟩ := Int.eq_ofNat_of_zero_le h0
  exact has_nat n h
theorem has_neg {x : Nat} {i : Int} (h : i < 0) : has x i = false := by unfold has; simp; omega
theorem ext {x y : Nat} (h : ∀ j, x.testBit j = y.testBit j) : x = y := Nat.eq_of_testBit_eq h

/-- one number more: all others as before. -/
theorem has_add_other (x : Nat) (i k : Int) (hx : x < 18446744073709551616) (h : k ≠ i) : has (add x i) k = has x k := by
  by_cases hk : 0 ≤ k
  · rw [has_eq k hk (add_lt i hx), has_eq k hk hx, add_test]
    have : ¬ (0 ≤ i ∧ i ≤ 63 ∧ ((k.toNat : Nat) : Int) = i) := by omega
    rw [decide_eq_false this]; simp
  · rw [has_neg (by omega), has_neg (by omega)]
theorem has_less_other (x : Nat) (i k : Int) (hx : x < 18446744073709551616) (h : k ≠ i) : has (less x i) k = has x k := by
  by_cases hk : 0 ≤ k
  · rw [has_eq k hk (less_lt i hx), has_eq k hk hx, less_test _ _ hx]
    have : ¬ (0 ≤ i ∧ i ≤ 63 ∧ ((k.toNat : Nat) : Int) = i) := by omega
    rw [decide_eq_false this]; simp
  · rw [has_neg (by omega), has_neg (by omega)]
theorem has_add_same (x : Nat) (i : Int) (hx : x < 18446744073709551616) : has (add x i) i = (decide (0 ≤ i) && decide (i < 64)) := by
  by_cases hk : 0 ≤ i
  · rw [has_eq i hk (add_lt i hx), add_test]
    by_cases h63 : i < 64
    · have : (0 ≤ i ∧ i ≤ 63 ∧ ((i.toNat : Nat) : Int) = i) := by omega
      simp [this, h63]
    · have : ¬ (0 ≤ i ∧ i ≤ 63 ∧ ((i.toNat : Nat) : Int) = i) := by omega
      rw [test_big hx (by omega), decide_eq_false this, decide_eq_false h63]; simp
  · rw [has_neg (by omega)]; simp; omega
theorem has_less_same (x : Nat) (i : Int) (hx : x < 18446744073709551616) : has (less x i) i = false := by
  by_cases hk : 0 ≤ i
  · rw [has_eq i hk (less_lt i hx), less_test _ _ hx]
    by_cases h63 : i < 64
    · have : (0 ≤ i ∧ i ≤ 63 ∧ ((i.toNat : Nat) : Int) = i) := by omega
      simp [this]
    · rw [test_big hx (by omega)]; rfl
  · rw [has_neg (by omega)]

theorem items_lt {x k : Nat} (h : k ∈ items x) : k < 64 := by
  unfold items at h; rw [List.mem_filter, List.mem_range] at h; exact h.1
theorem items_mem {x k : Nat} : k ∈ items x ↔ k < 64 ∧ x.testBit k = true := by
  unfold items; rw [List.mem_filter, List.mem_range]
theorem items_len (x : Nat) : (items x).length ≤ 64 := by
  unfold items; have := List.length_filter_le (fun i => x.testBit i) (List.range 64); simpa using this
theorem items_rise (x : Nat) : (items x).Pairwise (· < ·) := by
  unfold items; exact List.Pairwise.filter _ List.pairwise_lt_range
theorem items_zero : items 0 = [] := by unfold items; simp
theorem zero_of_items {x : Nat} (h : x < 18446744073709551616) (hi : items x = []) : x = 0 := by
  apply ext; intro j
  rw [Nat.zero_testBit]
  by_cases hj : j < 64
  · have : j ∉ items x := by rw [hi]; simp
    rw [items_mem] at this
    cases hx : x.testBit j
    · rfl
    · exact absurd ⟨hj, hx⟩ this
  · exact test_big h (by omega)

/-- the least number first, and then those of the set without it. -/
theorem items_cons {x k : Nat} (h : x < 18446744073709551616) (hk : k < 64) (ht : x.testBit k = true) (hl : ∀ j, j < k → x.testBit j = false) :
    items x = k :: items (less x (k : Int)) := by
  have e : List.range 64 = List.range k ++ k :: List.range' (k + 1) (63 - k) := by
    rw [List.range_eq_range', List.range_eq_range']
    have e1 : (64 : Nat) = k + (64 - k) := by omega
    rw [show List.range' 0 64 = List.range' 0 (k + (64 - k)) from by rw [← e1], ← List.range'_append_1]
    congr 1
    rw [show 64 - k = (63 - k) + 1 from by omega, List.range'_succ]
    simp
  unfold items
  rw [e, List.filter_append, List.filter_append, List.filter_cons, List.filter_cons]
  have f1 : (List.range k).filter (fun i => x.testBit i) = [] := by
    rw [List.filter_eq_nil_iff]; intro a ha; rw [List.mem_range] at ha; simp [hl a ha]
  have f2 : (List.range k).filter (fun i => (less x (k : Int)).testBit i) = [] := by
    rw [List.filter_eq_nil_iff]; intro a ha; rw [List.mem_range] at ha; rw [less_test _ _ h]; simp [hl a ha]
  have f3 : (less x (k : Int)).testBit k = false := by rw [less_test _ _ h]; simp; omega
  rw [f1, f2, ht, f3]
  simp only [List.nil_append, if_true]
  rw [if_neg (by simp)]
  congr 1
  apply List.filter_congr
  intro a ha
  rw [List.mem_range'_1] at ha
  rw [less_test _ _ h]
  have : ¬ (0 ≤ (k : Int) ∧ (k : Int) ≤ 63 ∧ ((a : Nat) : Int) = (k : Int)) := by omega
  rw [decide_eq_false this]; simp
theorem less_count {x k : Nat} (h : x < 18446744073709551616) (hk : k < 64) (ht : x.testBit k = true) (hl : ∀ j, j < k → x.testBit j = false) :
    count x = count (less x (k : Int)) + 1 := by
  unfold count; rw [items_cons h hk ht hl]; rfl

/-- all numbers of a list. -/
def ofL (x : Nat) : List Int → Nat
  | [] => x
  | i :: l => ofL (add x i) l
theorem ofL_append (x : Nat) (a b : List Int) : ofL x (a ++ b) = ofL (ofL x a) b := by
  induction a generalizing x with
  | nil => rfl
  | cons i l ih => exact ih _
theorem ofL_snoc (x : Nat) (a : List Int) (i : Int) : ofL x (a ++ [i]) = add (ofL x a) i := by rw [ofL_append]; rfl
theorem ofL_lt {x : Nat} (l : List Int) (h : x < 18446744073709551616) : ofL x l < 18446744073709551616 := by
  induction l generalizing x with
  | nil => exact h
  | cons i l ih => exact ih (add_lt i h)
theorem ofL_test (x : Nat) (l : List Int) (j : Nat) (hj : j < 64) : (ofL x l).testBit j = (x.testBit j || decide ((j : Int) ∈ l)) := by
  induction l generalizing x with
  | nil => simp [ofL]
  | cons i l ih =>
    show (ofL (add x i) l).testBit j = _
    rw [ih, add_test, Bool.eq_iff_iff]
    simp
    constructor
    · rintro ((h | h) | h)
      · exact .inl h
      · exact .inr (.inl h.2.2)
      · exact .inr (.inr h)
    · rintro (h | h | h)
      · exact .inl (.inl h)
      · exact .inl (.inr ⟨by omega, by omega, h⟩)
      · exact .inr h
/-- a set is all its numbers, in whatever order. -/
theorem ofL_items {x : Nat} (l : List Int) (h : x < 18446744073709551616) (hl : ∀ j : Nat, j < 64 → ((j : Int) ∈ l ↔ j ∈ items x)) : ofL 0 l = x := by
  apply ext; intro j
  by_cases hj : j < 64
  · rw [ofL_test _ _ _ hj, Nat.zero_testBit, Bool.false_or]
    have := hl j hj
    rw [items_mem] at this
    cases hx : x.testBit j
    · simp [this, hx]
    · simp [this, hx, hj]
  · rw [test_big (ofL_lt l (by decide)) (by omega), test_big h (by omega)]
end Go.Proofs.Ytcfdndppkpjleaa.Sm
