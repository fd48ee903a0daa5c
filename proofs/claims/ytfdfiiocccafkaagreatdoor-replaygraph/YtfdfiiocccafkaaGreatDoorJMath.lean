/-
  Plain mathematics of sets of small numbers as natural numbers below two to the 64th: what with, less, has, items and count are, and how they go together. Nothing of the program.
  Plain mathematics: how many numbers a set has, reckoned by adding up bits in fields of two, four and eight; and the least number of a set. Nothing of the program.
  Plain mathematics of graphs of 32 nodes as 32 sets: edges, ways, what is reached; how an edge more, or a node without its edges, changes that. Nothing of the program.
  The least set that has some numbers and, of each that it has, all that a function tells; how one comes to it number by number. Nothing of the program.
  Plain mathematics of orders of 32 nodes: places, the node of a place, rows, who stands where; how places are given anew; an edge more in a sorted graph. Nothing of the program.
  Plain mathematics of an edge more in a sorted graph: who is fore, who is hind, what comes of it. Nothing of the program.
-/
import Derived.Lib.TrailingZeros
namespace Go.Proofs.YtfdfiiocccafkaaGreatDoor.Sm

def bit (i : Int) : Nat := if 0 ≤ i ∧ i ≤ 63 then 2 ^ i.toNat else 0
def has (x : Nat) (i : Int) : Bool := decide (0 ≤ i) && (decide (i ≤ 63) && x.testBit i.toNat)
def add (x : Nat) (i : Int) : Nat := x ||| bit i
def less (x : Nat) (i : Int) : Nat := x &&& (18446744073709551615 - bit i)
def items (x : Nat) : List Nat := (List.range 64).filter fun i => x.testBit i
def count (x : Nat) : Nat := (items x).length

theorem bit_in {i : Int} (h0 : 0 ≤ i) (h1 : i ≤ 63) : bit i = 2 ^ i.toNat := by unfold bit; rw [if_pos ⟨h0, h1⟩]
theorem bit_out {i : Int} (h : i < 0 ∨ 63 < i) : bit i = 0 := by unfold bit; rw [if_neg (by omega)]
theorem bit_lt (i : Int) : bit i < 18446744073709551616 := by
  unfold bit
  split
  · rename_i h
    have : (2 : Nat) ^ i.toNat < 2 ^ 64 := Nat.pow_lt_pow_right (by decide) (by omega)
    simpa using this
  · decide
theorem bit_test (i : Int) (j : Nat) : (bit i).testBit j = decide (0 ≤ i ∧ i ≤ 63 ∧ (j : Int) = i) := by
  unfold bit
  split
  · rename_i h
    rw [Nat.testBit_two_pow]
    rw [Bool.eq_iff_iff]; simp; omega
  · rename_i h
    rw [Nat.zero_testBit, eq_comm, decide_eq_false_iff_not]
    omega
theorem has_and (x : Nat) (i : Int) : has x i = ((x &&& bit i) != 0) := by
  unfold has
  by_cases h : 0 ≤ i ∧ i ≤ 63
  · have e : (x &&& bit i != 0) = x.testBit i.toNat := by
      rw [bit_in h.1 h.2]
      cases hx : x.testBit i.toNat
      · have : x &&& 2 ^ i.toNat = 0 := by
          apply Nat.eq_of_testBit_eq; intro j
          rw [Nat.testBit_and, Nat.testBit_two_pow, Nat.zero_testBit]
          by_cases hj : i.toNat = j
          · subst hj; simp [hx]
          · simp [hj]
        simp [this]
      · have : x &&& 2 ^ i.toNat ≠ 0 := by
          intro hz
          have := congrArg (fun n => n.testBit i.toNat) hz
          rw [Nat.zero_testBit] at this
          simp [Nat.testBit_and, hx] at this
        simp [this]
    rw [e, decide_eq_true h.1, decide_eq_true h.2]; rfl
  · rw [bit_out (by omega)]
    simp
    intro h0 h1
    omega
theorem add_test (x : Nat) (i : Int) (j : Nat) : (add x i).testBit j = (x.testBit j || decide (0 ≤ i ∧ i ≤ 63 ∧ (j : Int) = i)) := by
  unfold add; rw [Nat.testBit_or, bit_test]
theorem add_lt {x : Nat} (i : Int) (h : x < 18446744073709551616) : add x i < 18446744073709551616 := by
  have := Nat.or_lt_two_pow (n := 64) (x := x) (y := bit i) (by simpa using h) (by simpa using bit_lt i)
  simpa [add] using this
theorem less_lt {x : Nat} (i : Int) (h : x < 18446744073709551616) : less x i < 18446744073709551616 :=
  Nat.lt_of_le_of_lt Nat.and_le_left h
theorem less_test {x : Nat} (i : Int) (j : Nat) (h : x < 18446744073709551616) : (less x i).testBit j = (x.testBit j && !decide (0 ≤ i ∧ i ≤ 63 ∧ (j : Int) = i)) := by
  unfold less
  rw [Nat.testBit_and]
  have e : 18446744073709551615 - bit i = 2 ^ 64 - (bit i + 1) := by
    show 18446744073709551615 - bit i = 18446744073709551616 - (bit i + 1)
    omega
  rw [e, Nat.testBit_two_pow_sub_succ (by simpa using bit_lt i), bit_test]
  by_cases hj : j < 64
  · simp [hj]
  · have : x.testBit j = false := Nat.testBit_lt_two_pow (Nat.lt_of_lt_of_le h (by
      have : (2 : Nat) ^ 64 ≤ 2 ^ j := Nat.pow_le_pow_right (by decide) (by omega)
      simpa using this))
    simp [this]
theorem test_big {x j : Nat} (h : x < 18446744073709551616) (hj : 64 ≤ j) : x.testBit j = false :=
  Nat.testBit_lt_two_pow (Nat.lt_of_lt_of_le h (by
      have : (2 : Nat) ^ 64 ≤ 2 ^ j := Nat.pow_le_pow_right (by decide) hj
      simpa using this))
theorem has_nat {x : Nat} (k : Nat) (h : x < 18446744073709551616) : has x (k : Int) = x.testBit k := by
  unfold has
  by_cases hk : k < 64
  · have : (k : Int) ≤ 63 := by omega
    simp [this]
  · have := test_big (j := k) h (by omega)
    simp [this]
theorem has_eq {x : Nat} (i : Int) (h0 : 0 ≤ i) (h : x < 18446744073709551616) : has x i = x.testBit i.toNat := by
  obtain ⟨n, rfl⟩ := Int.eq_ofNat_of_zero_le h0
  exact has_nat n h
theorem has_neg {x : Nat} {i : Int} (h : i < 0) : has x i = false := by unfold has; simp; omega
theorem ext {x y : Nat} (h : ∀ j, x.testBit j = y.testBit j) : x = y := Nat.eq_of_testBit_eq h

/-- one number more: all others as before. -/
theorem has_add_other (x : Nat) (i k : Int) (hx : x < 18446744073709551616) (h : k ≠ i) : has (add x i) k = has x k := by
  by_cases hk : 0 ≤ k
  · rw [has_eq k hk (add_lt i hx), has_eq k hk hx, add_test]
    have : ¬ (0 ≤ i ∧ i ≤ 63 ∧ ((k.toNat : Nat) : Int) = i) := by omega
    rw [decide_eq_false this]; simp
  · rw [has_neg (by omega), has_neg (by omega)]
theorem has_less_other (x : Nat) (i k : Int) (hx : x < 18446744073709551616) (h : k ≠ i) : has (less x i) k = has x k := by
  by_cases hk : 0 ≤ k
  · rw [has_eq k hk (less_lt i hx), has_eq k hk hx, less_test _ _ hx]
    have : ¬ (0 ≤ i ∧ i ≤ 63 ∧ ((k.toNat : Nat) : Int) = i) := by omega
    rw [decide_eq_false this]; simp
  · rw [has_neg (by omega), has_neg (by omega)]
theorem has_add_same (x : Nat) (i : Int) (hx : x < 18446744073709551616) : has (add x i) i = (decide (0 ≤ i) && decide (i < 64)) := by
  by_cases hk : 0 ≤ i
  · rw [has_eq i hk (add_lt i hx), add_test]
    by_cases h63 : i < 64
    · have : (0 ≤ i ∧ i ≤ 63 ∧ ((i.toNat : Nat) : Int) = i) := by omega
      simp [this, h63]
    · have : ¬ (0 ≤ i ∧ i ≤ 63 ∧ ((i.toNat : Nat) : Int) = i) := by omega
      rw [test_big hx (by omega), decide_eq_false this, decide_eq_false h63]; simp
  · rw [has_neg (by omega)]; simp; omega
theorem has_less_same (x : Nat) (i : Int) (hx : x < 18446744073709551616) : has (less x i) i = false := by
  by_cases hk : 0 ≤ i
  · rw [has_eq i hk (less_lt i hx), less_test _ _ hx]
    by_cases h63 : i < 64
    · have : (0 ≤ i ∧ i ≤ 63 ∧ ((i.toNat : Nat) : Int) = i) := by omega
      simp [this]
    · rw [test_big hx (by omega)]; rfl
  · rw [has_neg (by omega)]

theorem items_lt {x k : Nat} (h : k ∈ items x) : k < 64 := by
  unfold items at h; rw [List.mem_filter, List.mem_range] at h; exact h.1
theorem items_mem {x k : Nat} : k ∈ items x ↔ k < 64 ∧ x.testBit k = true := by
  unfold items; rw [List.mem_filter, List.mem_range]
theorem items_len (x : Nat) : (items x).length ≤ 64 := by
  unfold items; have := List.length_filter_le (fun i => x.testBit i) (List.range 64); simpa using this
theorem items_rise (x : Nat) : (items x).Pairwise (· < ·) := by
  unfold items; exact List.Pairwise.filter _ List.pairwise_lt_range
theorem items_zero : items 0 = [] := by unfold items; simp
theorem zero_of_items {x : Nat} (h : x < 18446744073709551616) (hi : items x = []) : x = 0 := by
  apply ext; intro j
  rw [Nat.zero_testBit]
  by_cases hj : j < 64
  · have : j ∉ items x := by rw [hi]; simp
    rw [items_mem] at this
    cases hx : x.testBit j
    · rfl
    · exact absurd ⟨hj, hx⟩ this
  · exact test_big h (by omega)

/-- the least number first, and then those of the set without it. -/
theorem items_cons {x k : Nat} (h : x < 18446744073709551616) (hk : k < 64) (ht : x.testBit k = true) (hl : ∀ j, j < k → x.testBit j = false) :
    items x = k :: items (less x (k : Int)) := by
  have e : List.range 64 = List.range k ++ k :: List.range' (k + 1) (63 - k) := by
    rw [List.range_eq_range', List.range_eq_range']
    have e1 : (64 : Nat) = k + (64 - k) := by omega
    rw [show List.range' 0 64 = List.range' 0 (k + (64 - k)) from by rw [← e1], ← List.range'_append_1]
    congr 1
    rw [show 64 - k = (63 - k) + 1 from by omega, List.range'_succ]
    simp
  unfold items
  rw [e, List.filter_append, List.filter_append, List.filter_cons, List.filter_cons]
  have f1 : (List.range k).filter (fun i => x.testBit i) = [] := by
    rw [List.filter_eq_nil_iff]; intro a ha; rw [List.mem_range] at ha; simp [hl a ha]
  have f2 : (List.range k).filter (fun i => (less x (k : Int)).testBit i) = [] := by
    rw [List.filter_eq_nil_iff]; intro a ha; rw [List.mem_range] at ha; rw [less_test _ _ h]; simp [hl a ha]
  have f3 : (less x (k : Int)).testBit k = false := by rw [less_test _ _ h]; simp; omega
  rw [f1, f2, ht, f3]
  simp only [List.nil_append, if_true]
  rw [if_neg (by simp)]
  congr 1
  apply List.filter_congr
  intro a ha
  rw [List.mem_range'_1] at ha
  rw [less_test _ _ h]
  have : ¬ (0 ≤ (k : Int) ∧ (k : Int) ≤ 63 ∧ ((a : Nat) : Int) = (k : Int)) := by omega
  rw [decide_eq_false this]; simp
theorem less_count {x k : Nat} (h : x < 18446744073709551616) (hk : k < 64) (ht : x.testBit k = true) (hl : ∀ j, j < k → x.testBit j = false) :
    count x = count (less x (k : Int)) + 1 := by
  unfold count; rw [items_cons h hk ht hl]; rfl

/-- all numbers of a list. -/
def ofL (x : Nat) : List Int → Nat
  | [] => x
  | i :: l => ofL (add x i) l
theorem ofL_append (x : Nat) (a b : List Int) : ofL x (a ++ b) = ofL (ofL x a) b := by
  induction a generalizing x with
  | nil => rfl
  | cons i l ih => exact ih _
theorem ofL_snoc (x : Nat) (a : List Int) (i : Int) : ofL x (a ++ [i]) = add (ofL x a) i := by rw [ofL_append]; rfl
theorem ofL_lt {x : Nat} (l : List Int) (h : x < 18446744073709551616) : ofL x l < 18446744073709551616 := by
  induction l generalizing x with
  | nil => exact h
  | cons i l ih => exact ih (add_lt i h)
theorem ofL_test (x : Nat) (l : List Int) (j : Nat) (hj : j < 64) : (ofL x l).testBit j = (x.testBit j || decide ((j : Int) ∈ l)) := by
  induction l generalizing x with
  | nil => simp [ofL]
  | cons i l ih =>
    show (ofL (add x i) l).testBit j = _
    rw [ih, add_test, Bool.eq_iff_iff]
    simp
    constructor
    · rintro ((h | h) | h)
      · exact .inl h
      · exact .inr (.inl h.2.2)
      · exact .inr (.inr h)
    · rintro (h | h | h)
      · exact .inl (.inl h)
      · exact .inl (.inr ⟨by omega, by omega, h⟩)
      · exact .inr h
/-- a set is all its numbers, in whatever order. -/
theorem ofL_items {x : Nat} (l : List Int) (h : x < 18446744073709551616) (hl : ∀ j : Nat, j < 64 → ((j : Int) ∈ l ↔ j ∈ items x)) : ofL 0 l = x := by
  apply ext; intro j
  by_cases hj : j < 64
  · rw [ofL_test _ _ _ hj, Nat.zero_testBit, Bool.false_or]
    have := hl j hj
    rw [items_mem] at this
    cases hx : x.testBit j
    · simp [this, hx]
    · simp [this, hx, hj]
  · rw [test_big (ofL_lt l (by decide)) (by omega), test_big h (by omega)]
end Go.Proofs.YtfdfiiocccafkaaGreatDoor.Sm
namespace Go.Proofs.YtfdfiiocccafkaaGreatDoor.Sm

def m5 : Nat → Nat
  | 0 => 0
  | n + 1 => 85 + 256 * m5 n
def m3 : Nat → Nat
  | 0 => 0
  | n + 1 => 51 + 256 * m3 n
def mF : Nat → Nat
  | 0 => 0
  | n + 1 => 15 + 256 * mF n
def q1 (n x : Nat) : Nat := (x / 2 &&& m5 n) + (x &&& m5 n)
def q2 (n y : Nat) : Nat := (y / 4 &&& m3 n) + (y &&& m3 n)
def q3 (n y : Nat) : Nat := (y / 16 + y) &&& mF n
def c1 (b : Nat) : Nat := (b / 2 &&& 85) + (b &&& 85)
def c2 (b : Nat) : Nat := (b / 4 &&& 51) + (b &&& 51)
def c3 (b : Nat) : Nat := (b / 16 + b) &&& 15

theorem and_split (a b : Nat) : a &&& b = (a % 256 &&& b % 256) + 256 * (a / 256 &&& b / 256) := by
  have h1 : (a &&& b) % 2 ^ 8 = (a % 2 ^ 8) &&& (b % 2 ^ 8) := Nat.and_mod_two_pow
  have h2 : (a &&& b) / 2 ^ 8 = a / 2 ^ 8 &&& b / 2 ^ 8 := Nat.and_div_two_pow
  simp only [show (2 : Nat) ^ 8 = 256 from rfl] at h1 h2
  rw [← h1, ← h2]; omega
theorem and_split' (a A b B : Nat) (ha : a < 256) (hb : b < 256) : (a + 256 * A) &&& (b + 256 * B) = (a &&& b) + 256 * (A &&& B) := by
  rw [and_split, show (a + 256 * A) % 256 = a from by omega, show (b + 256 * B) % 256 = b from by omega, show (a + 256 * A) / 256 = A from by omega, show (b + 256 * B) / 256 = B from by omega]

theorem d1 : ∀ b < 256, ∀ c < 2, (b / 2 + 128 * c) &&& 85 = b / 2 &&& 85 := by decide +kernel
theorem d2 : ∀ b < 256, ∀ c < 4, (b / 4 + 64 * c) &&& 51 = b / 4 &&& 51 := by decide +kernel
theorem d3 : ∀ b < 69, ∀ c < 5, (b / 16 + 16 * c + b) &&& 15 = (b / 16 + b) &&& 15 := by decide +kernel
theorem e1 : ∀ b < 256, c1 b < 256 := by decide +kernel
theorem e2 : ∀ b < 256, c2 (c1 b) < 69 ∧ c2 (c1 b) % 16 < 5 := by decide +kernel
theorem e3 : ∀ b < 256, c3 (c2 (c1 b)) = ((List.range 8).filter fun i => b.testBit i).length := by decide +kernel
theorem e4 : ∀ b < 256, c3 (c2 (c1 b)) < 9 := by decide +kernel

theorem q1_succ (n b X : Nat) (hb : b < 256) : q1 (n + 1) (b + 256 * X) = c1 b + 256 * q1 n X := by
  unfold q1 c1
  rw [show m5 (n + 1) = 85 + 256 * m5 n from rfl, show (b + 256 * X) / 2 = (b / 2 + 128 * (X % 2)) + 256 * (X / 2) from by omega, and_split' _ _ _ _ (by omega) (by decide), and_split' _ _ _ _ hb (by decide), d1 b hb _ (by omega)]
  omega
theorem q2_succ (n b X : Nat) (hb : b < 256) : q2 (n + 1) (b + 256 * X) = c2 b + 256 * q2 n X := by
  unfold q2 c2
  rw [show m3 (n + 1) = 51 + 256 * m3 n from rfl, show (b + 256 * X) / 4 = (b / 4 + 64 * (X % 4)) + 256 * (X / 4) from by omega, and_split' _ _ _ _ (by omega) (by decide), and_split' _ _ _ _ hb (by decide), d2 b hb _ (by omega)]
  omega
theorem q3_succ (n b X : Nat) (hb : b < 69) (hX : X % 16 < 5) : q3 (n + 1) (b + 256 * X) = c3 b + 256 * q3 n X := by
  unfold q3 c3
  rw [show mF (n + 1) = 15 + 256 * mF n from rfl, show (b + 256 * X) / 16 + (b + 256 * X) = (b / 16 + 16 * (X % 16) + b) + 256 * (X / 16 + X) from by omega, and_split' _ _ _ _ (by omega) (by decide), d3 b hb _ hX]
def t12 (n x : Nat) : Nat := q2 n (q1 n x)
theorem t12_succ (n b X : Nat) (hb : b < 256) : t12 (n + 1) (b + 256 * X) = c2 (c1 b) + 256 * t12 n X := by
  unfold t12; rw [q1_succ _ _ _ hb, q2_succ _ _ _ (e1 b hb)]
theorem t12_low (n x : Nat) : t12 n x % 16 < 5 := by
  cases n with
  | zero => simp [t12, q1, q2, m5, m3]
  | succ n =>
    rw [show x = x % 256 + 256 * (x / 256) from by omega, t12_succ _ _ _ (by omega)]
    have := (e2 (x % 256) (by omega)).2
    omega
def t123 (n x : Nat) : Nat := q3 n (t12 n x)
theorem t123_succ (n x : Nat) : t123 (n + 1) x = c3 (c2 (c1 (x % 256))) + 256 * t123 n (x / 256) := by
  unfold t123
  rw [show t12 (n + 1) x = c2 (c1 (x % 256)) + 256 * t12 n (x / 256) from by
    have := t12_succ n (x % 256) (x / 256) (by omega)
    rwa [show x % 256 + 256 * (x / 256) = x from by omega] at this, q3_succ _ _ _ (e2 _ (by omega)).1 (t12_low _ _)]
def cnt (n x : Nat) : Nat := ((List.range (8 * n)).filter fun i => x.testBit i).length
theorem cnt_succ (n x : Nat) : cnt (n + 1) x = c3 (c2 (c1 (x % 256))) + cnt n (x / 256) := by
  unfold cnt
  rw [e3 _ (by omega), show 8 * (n + 1) = 8 + 8 * n from by omega, List.range_add, List.filter_append, List.length_append]
  congr 1
  · congr 1
    apply List.filter_congr
    intro i hi
    rw [List.mem_range] at hi
    rw [show (256 : Nat) = 2 ^ 8 from rfl, Nat.testBit_mod_two_pow]
    simp [hi]
  · rw [List.filter_map, List.length_map]
    congr 1
    apply List.filter_congr
    intro i _
    show x.testBit (8 + i) = _
    rw [show (256 : Nat) = 2 ^ 8 from rfl, Nat.testBit_div_two_pow, Nat.add_comm]
theorem m5_8 : m5 8 = 6148914691236517205 := by decide +kernel
theorem m3_8 : m3 8 = 3689348814741910323 := by decide +kernel
theorem mF_8 : mF 8 = 1085102592571150095 := by decide +kernel
def num8 (f0 f1 f2 f3 f4 f5 f6 f7 : Nat) : Nat := f0 + 256 * (f1 + 256 * (f2 + 256 * (f3 + 256 * (f4 + 256 * (f5 + 256 * (f6 + 256 * f7))))))
theorem num8_div1 (f0 f1 f2 f3 f4 f5 f6 f7 : Nat) (h0 : f0 < 256) : num8 f0 f1 f2 f3 f4 f5 f6 f7 / 256 = num8 f1 f2 f3 f4 f5 f6 f7 0 := by unfold num8; omega
theorem num8_div2 (f0 f1 f2 f3 f4 f5 f6 f7 : Nat) (h0 : f0 < 256) (h1 : f1 < 256) : num8 f0 f1 f2 f3 f4 f5 f6 f7 / 65536 = num8 f2 f3 f4 f5 f6 f7 0 0 := by
  rw [show (65536 : Nat) = 256 * 256 from rfl, ← Nat.div_div_eq_div_mul, num8_div1 _ _ _ _ _ _ _ _ h0, num8_div1 _ _ _ _ _ _ _ _ h1]
theorem num8_div4 (f0 f1 f2 f3 f4 f5 f6 f7 : Nat) (h0 : f0 < 256) (h1 : f1 < 256) (h2 : f2 < 256) (h3 : f3 < 256) : num8 f0 f1 f2 f3 f4 f5 f6 f7 / 4294967296 = num8 f4 f5 f6 f7 0 0 0 0 := by
  rw [show (4294967296 : Nat) = 65536 * 65536 from rfl, ← Nat.div_div_eq_div_mul, num8_div2 _ _ _ _ _ _ _ _ h0 h1, num8_div2 _ _ _ _ _ _ _ _ h2 h3]
theorem num8_add (f0 f1 f2 f3 f4 f5 f6 f7 g0 g1 g2 g3 g4 g5 g6 g7 : Nat) : num8 f0 f1 f2 f3 f4 f5 f6 f7 + num8 g0 g1 g2 g3 g4 g5 g6 g7 = num8 (f0 + g0) (f1 + g1) (f2 + g2) (f3 + g3) (f4 + g4) (f5 + g5) (f6 + g6) (f7 + g7) := by
  unfold num8; omega
theorem num8_lt (f0 f1 f2 f3 f4 f5 f6 f7 : Nat) (h0 : f0 < 128) (h1 : f1 < 128) (h2 : f2 < 128) (h3 : f3 < 128) (h4 : f4 < 128) (h5 : f5 < 128) (h6 : f6 < 128) (h7 : f7 < 128) : num8 f0 f1 f2 f3 f4 f5 f6 f7 < 9223372036854775808 := by unfold num8; omega
theorem num8_mod (f0 f1 f2 f3 f4 f5 f6 f7 : Nat) (h0 : f0 < 128) : num8 f0 f1 f2 f3 f4 f5 f6 f7 % 128 = f0 := by unfold num8; omega
theorem sum8 (f0 f1 f2 f3 f4 f5 f6 f7 y z1 z2 z3 : Nat) (h0 : f0 < 9) (h1 : f1 < 9) (h2 : f2 < 9) (h3 : f3 < 9) (h4 : f4 < 9) (h5 : f5 < 9) (h6 : f6 < 9) (h7 : f7 < 9)
    (hy : y = num8 f0 f1 f2 f3 f4 f5 f6 f7)
    (e1 : z1 = y + y / 256) (e2 : z2 = z1 + z1 / 65536) (e3 : z3 = z2 + z2 / 4294967296) :
    z1 < 9223372036854775808 ∧ z2 < 9223372036854775808 ∧ z3 < 9223372036854775808 ∧ z3 % 128 = f0 + f1 + f2 + f3 + f4 + f5 + f6 + f7 := by
  rw [hy, num8_div1 _ _ _ _ _ _ _ _ (by omega), num8_add] at e1
  rw [e1, num8_div2 _ _ _ _ _ _ _ _ (by omega) (by omega), num8_add] at e2
  rw [e2, num8_div4 _ _ _ _ _ _ _ _ (by omega) (by omega) (by omega) (by omega), num8_add] at e3
  refine ⟨?_, ?_, ?_, ?_⟩
  · rw [e1]; apply num8_lt <;> omega
  · rw [e2]; apply num8_lt <;> omega
  · rw [e3]; apply num8_lt <;> omega
  · rw [e3, num8_mod _ _ _ _ _ _ _ _ (by omega)]; omega
/-- the three steps, and then the three sums. -/
def z1 (x : Nat) : Nat := t123 8 x + t123 8 x / 256
def z2 (x : Nat) : Nat := z1 x + z1 x / 65536
def z3 (x : Nat) : Nat := z2 x + z2 x / 4294967296
theorem pop (x : Nat) : t123 8 x < 9223372036854775808 ∧ z1 x < 9223372036854775808 ∧ z2 x < 9223372036854775808 ∧ z3 x < 9223372036854775808 ∧ z3 x % 128 = count x := by
  have hc : count x = cnt 8 x := rfl
  have hl := fun k => e4 (k % 256) (Nat.mod_lt _ (by decide))
  have hz0 : ∀ k, t123 0 k = 0 := fun k => by simp [t123, q3, mF]
  have hz1 : ∀ k, cnt 0 k = 0 := fun k => by simp [cnt]
  have ht : t123 8 x = c3 (c2 (c1 (x % 256))) + 256 * (c3 (c2 (c1 (x / 256 % 256))) + 256 * (c3 (c2 (c1 (x / 256 / 256 % 256))) + 256 * (c3 (c2 (c1 (x / 256 / 256 / 256 % 256))) + 256 * (c3 (c2 (c1 (x / 256 / 256 / 256 / 256 % 256))) + 256 * (c3 (c2 (c1 (x / 256 / 256 / 256 / 256 / 256 % 256))) + 256 * (c3 (c2 (c1 (x / 256 / 256 / 256 / 256 / 256 / 256 % 256))) + 256 * (c3 (c2 (c1 (x / 256 / 256 / 256 / 256 / 256 / 256 / 256 % 256))) + 256 * (0)))))))) := by rw [t123_succ 7, t123_succ 6, t123_succ 5, t123_succ 4, t123_succ 3, t123_succ 2, t123_succ 1, t123_succ 0, hz0]
  have hk : cnt 8 x = c3 (c2 (c1 (x % 256))) + (c3 (c2 (c1 (x / 256 % 256))) + (c3 (c2 (c1 (x / 256 / 256 % 256))) + (c3 (c2 (c1 (x / 256 / 256 / 256 % 256))) + (c3 (c2 (c1 (x / 256 / 256 / 256 / 256 % 256))) + (c3 (c2 (c1 (x / 256 / 256 / 256 / 256 / 256 % 256))) + (c3 (c2 (c1 (x / 256 / 256 / 256 / 256 / 256 / 256 % 256))) + (c3 (c2 (c1 (x / 256 / 256 / 256 / 256 / 256 / 256 / 256 % 256))) + 0))))))) := by rw [cnt_succ 7, cnt_succ 6, cnt_succ 5, cnt_succ 4, cnt_succ 3, cnt_succ 2, cnt_succ 1, cnt_succ 0, hz1]
  rw [hc, hk]
  have := sum8 _ _ _ _ _ _ _ _ (t123 8 x) (z1 x) (z2 x) (z3 x) (hl x) (hl (x / 256)) (hl (x / 256 / 256)) (hl (x / 256 / 256 / 256)) (hl (x / 256 / 256 / 256 / 256)) (hl (x / 256 / 256 / 256 / 256 / 256)) (hl (x / 256 / 256 / 256 / 256 / 256 / 256)) (hl (x / 256 / 256 / 256 / 256 / 256 / 256 / 256)) (by rw [ht]; unfold num8; omega) rfl rfl rfl
  refine ⟨?_, this.1, this.2.1, this.2.2.1, by rw [this.2.2.2]; omega⟩
  exact Nat.lt_of_le_of_lt (by show t123 8 x ≤ t123 8 x + t123 8 x / 256; omega) this.1
theorem q1_lt (x : Nat) : q1 8 x < 18446744073709551616 := by
  have h1 : x / 2 &&& m5 8 ≤ m5 8 := Nat.and_le_right
  have h2 : x &&& m5 8 ≤ m5 8 := Nat.and_le_right
  rw [m5_8] at h1 h2
  unfold q1; rw [m5_8]; omega
theorem q2_lt (x : Nat) : q2 8 x < 9223372036854775808 := by
  have h1 : x / 4 &&& m3 8 ≤ m3 8 := Nat.and_le_right
  have h2 : x &&& m3 8 ≤ m3 8 := Nat.and_le_right
  rw [m3_8] at h1 h2
  unfold q2; rw [m3_8]; omega

/-- the least number. -/
def first (x : Nat) : Nat := Lib.ctz 64 x
theorem first_spec {x : Nat} (h0 : x ≠ 0) (h : x < 18446744073709551616) : first x < 64 ∧ x.testBit (first x) = true ∧ ∀ j, j < first x → x.testBit j = false := by
  unfold first Lib.ctz
  rw [if_neg h0]
  obtain ⟨m, hm, hk⟩ := Lib.ctzFrom_spec 64 x (by omega) (by simpa using h)
  generalize Lib.ctzFrom 64 x = k at *
  refine ⟨hk, ?_, ?_⟩
  · rw [hm, Nat.mul_comm, Nat.testBit_mul_two_pow]; simp
  · intro j hj
    rw [hm, Nat.mul_comm, Nat.testBit_mul_two_pow]; simp; omega
end Go.Proofs.YtfdfiiocccafkaaGreatDoor.Sm
namespace Go.Proofs.YtfdfiiocccafkaaGreatDoor.Mm
open Go.Proofs.YtfdfiiocccafkaaGreatDoor

abbrev Gr := Nat → Nat
/-- each row is a set. -/
def Ok (m : Gr) : Prop := ∀ i, i < 32 → m i < 18446744073709551616
/-- an edge. -/
def E (m : Gr) (i j : Nat) : Prop := i < 32 ∧ j < 32 ∧ (m i).testBit j = true
/-- edges, one at least, one behind the other. -/
inductive W (e : Nat → Nat → Prop) : Nat → Nat → Prop
  | one {i j} : e i j → W e i j
  | more {i j k} : W e i j → e j k → W e i k
theorem W.trans {e : Nat → Nat → Prop} {i j k : Nat} (h : W e i j) (h2 : W e j k) : W e i k := by
  induction h2 with
  | one h' => exact .more h h'
  | more _ h' ih => exact .more ih h'
theorem W.head {e : Nat → Nat → Prop} {i j k : Nat} (h : e i j) (h2 : W e j k) : W e i k := (W.one h).trans h2
theorem W.mono {e f : Nat → Nat → Prop} (hf : ∀ i j, e i j → f i j) {i j : Nat} (h : W e i j) : W f i j := by
  induction h with
  | one h' => exact .one (hf _ _ h')
  | more _ h' ih => exact .more ih (hf _ _ h')
theorem W.flip {e : Nat → Nat → Prop} {i j : Nat} (h : W e i j) : W (fun a b => e b a) j i := by
  induction h with
  | one h' => exact .one h'
  | more _ h' ih => exact W.head (e := fun a b => e b a) h' ih
theorem W.cases_head {e : Nat → Nat → Prop} {i k : Nat} (h : W e i k) : e i k ∨ ∃ j, e i j ∧ W e j k := by
  induction h with
  | one h' => exact .inl h'
  | more _ h' ih =>
    rcases ih with h1 | ⟨j, h1, h2⟩
    · exact .inr ⟨_, h1, .one h'⟩
    · exact .inr ⟨j, h1, .more h2 h'⟩
theorem W.nodes {m : Gr} {i j : Nat} (h : W (E m) i j) : i < 32 ∧ j < 32 := by
  induction h with
  | one h' => exact ⟨h'.1, h'.2.1⟩
  | more _ h' ih => exact ⟨ih.1, h'.2.1⟩

/-- the set of all that p tells, below n. -/
def mk (p : Nat → Bool) : Nat → Nat
  | 0 => 0
  | n + 1 => if p n then Sm.add (mk p n) (n : Int) else mk p n
theorem mk_lt (p : Nat → Bool) (n : Nat) : mk p n < 18446744073709551616 := by
  induction n with
  | zero => simp [mk]
  | succ n ih => unfold mk; split; exact Sm.add_lt _ ih; exact ih
theorem mk_test (p : Nat → Bool) (n j : Nat) (hn : n ≤ 64) : (mk p n).testBit j = (decide (j < n) && p j) := by
  induction n with
  | zero => simp [mk]
  | succ n ih =>
    have ih := ih (by omega)
    unfold mk
    by_cases hj : j = n
    · subst hj
      split
      · rename_i h
        rw [Sm.add_test, ih, decide_eq_true (p := (0 ≤ (j : Int) ∧ (j : Int) ≤ 63 ∧ (j : Int) = (j : Int))) (by omega)]
        simp [h]
      · rename_i h
        rw [ih]; simp [h]
    · have e : decide (j < n + 1) = decide (j < n) := by rw [decide_eq_decide]; omega
      split
      · rw [Sm.add_test, ih, decide_eq_false (p := (0 ≤ (n : Int) ∧ (n : Int) ≤ 63 ∧ (j : Int) = (n : Int))) (by omega), e]
        simp
      · rw [ih, e]
open Classical in
/-- all that a way goes to. -/
noncomputable def ways (e : Nat → Nat → Prop) (i : Nat) : Nat := mk (fun j => decide (W e i j)) 32
theorem ways_lt (e : Nat → Nat → Prop) (i : Nat) : ways e i < 18446744073709551616 := mk_lt _ _
theorem ways_test (e : Nat → Nat → Prop) (i j : Nat) : (ways e i).testBit j = true ↔ j < 32 ∧ W e i j := by
  unfold ways
  rw [mk_test _ _ _ (by omega)]
  simp
theorem ways_eq {e : Nat → Nat → Prop} {i R : Nat} (h : ∀ j, R.testBit j = true ↔ j < 32 ∧ W e i j) : R = ways e i := by
  apply Sm.ext; intro j
  rw [Bool.eq_iff_iff, h j, ways_test]
theorem ways_congr {e f : Nat → Nat → Prop} {i k : Nat} (h : ∀ j, W e i j ↔ W f k j) : ways e i = ways f k :=
  ways_eq fun j => by rw [ways_test, h j]
theorem lt32 {x : Nat} (h : ∀ j, x.testBit j = true → j < 32) : x < 4294967296 := by
  have := Nat.lt_pow_two_of_testBit x (n := 32) (fun i hi => by
    cases hb : x.testBit i
    · rfl
    · have := h i hb; omega)
  simpa using this
theorem ways_lt32 (e : Nat → Nat → Prop) (i : Nat) : ways e i < 4294967296 := lt32 fun j h => ((ways_test e i j).1 h).1
theorem test32 {x j : Nat} (h : x < 4294967296) (hj : x.testBit j = true) : j < 32 := by
  apply Classical.byContradiction
  intro hn
  rw [Nat.testBit_lt_two_pow (Nat.lt_of_lt_of_le h (by
    have : (2 : Nat) ^ 32 ≤ 2 ^ j := Nat.pow_le_pow_right (by decide) (by omega)
    simpa using this))] at hj
  cases hj

/-- all that one edge goes to, from which one comes. -/
def outs (m : Gr) (i : Nat) : Nat := if i < 32 then m i % 4294967296 else 0
def ins (m : Gr) (i : Nat) : Nat := if i < 32 then mk (fun j => (m j).testBit i) 32 else 0
theorem outs_lt (m : Gr) (i : Nat) : outs m i < 4294967296 := by
  unfold outs; split
  · exact Nat.mod_lt _ (by decide)
  · decide
theorem outs_test (m : Gr) (i j : Nat) : (outs m i).testBit j = true ↔ E m i j := by
  unfold outs E
  split
  · rename_i h
    rw [show (4294967296 : Nat) = 2 ^ 32 from rfl, Nat.testBit_mod_two_pow]
    simp [h]
  · rename_i h
    simp [h]
theorem ins_test (m : Gr) (i j : Nat) : (ins m i).testBit j = true ↔ E m j i := by
  unfold ins E
  split
  · rename_i h
    rw [mk_test _ _ _ (by omega)]
    simp [h]
  · rename_i h
    simp [h]
theorem ins_lt (m : Gr) (i : Nat) : ins m i < 4294967296 := lt32 fun j h => ((ins_test m i j).1 h).1

/-- the graph with an edge more, and without a node's edges. -/
def put (m : Gr) (a b : Nat) : Gr := fun i => if i = a then Sm.add (m i) (b : Int) else m i
def clr (m : Gr) (a : Nat) : Gr := fun i => if i = a then m i - m i % 4294967296 else m i
/-- the first k rows without a. -/
def cutTo (m : Gr) (a k : Nat) : Gr := fun i => if i < k then Sm.less (m i) (a : Int) else m i
def cut (m : Gr) (a : Nat) : Gr := fun i => Sm.less (clr m a i) (a : Int)
theorem put_ok {m : Gr} (a b : Nat) (h : Ok m) : Ok (put m a b) := by
  intro i hi
  unfold put
  split
  · exact Sm.add_lt _ (h i hi)
  · exact h i hi
theorem clr_ok {m : Gr} (a : Nat) (h : Ok m) : Ok (clr m a) := by
  intro i hi
  unfold clr
  split
  · have := h i hi; omega
  · exact h i hi
theorem cut_ok {m : Gr} (a : Nat) (h : Ok m) : Ok (cut m a) := fun i hi => Sm.less_lt _ (clr_ok a h i hi)
theorem put_E {m : Gr} {a b : Nat} (ha : a < 32) (hb : b < 32) (i j : Nat) : E (put m a b) i j ↔ E m i j ∨ (i = a ∧ j = b) := by
  unfold E put
  by_cases h : i = a
  · subst h
    rw [if_pos rfl, Sm.add_test]
    by_cases hj : j = b
    · subst hj
      rw [decide_eq_true (p := (0 ≤ (j : Int) ∧ (j : Int) ≤ 63 ∧ (j : Int) = (j : Int))) (by omega)]
      simp [ha, hb]
    · rw [decide_eq_false (p := (0 ≤ (b : Int) ∧ (b : Int) ≤ 63 ∧ (j : Int) = (b : Int))) (by omega)]
      simp [hj]
  · rw [if_neg h]
    simp [h]
theorem clr_test (x j : Nat) : (x - x % 4294967296).testBit j = (x.testBit j && decide (32 ≤ j)) := by
  have e : x - x % 4294967296 = 2 ^ 32 * (x / 2 ^ 32) + 0 := by
    have := Nat.div_add_mod x (2 ^ 32)
    simp only [Nat.reducePow] at this ⊢
    omega
  rw [e, Nat.testBit_two_pow_mul_add _ (by decide)]
  by_cases h : j < 32
  · simp [h]
  · rw [if_neg h, Nat.testBit_div_two_pow]
    simp [show 32 ≤ j from by omega]
theorem cut_E {m : Gr} (hm : Ok m) {a : Nat} (ha : a < 32) (i j : Nat) : E (cut m a) i j ↔ E m i j ∧ i ≠ a ∧ j ≠ a := by
  unfold E
  constructor
  · rintro ⟨hi, hj, ht⟩
    have ht' : (Sm.less (clr m a i) (a : Int)).testBit j = true := ht
    rw [Sm.less_test _ _ (clr_ok a hm i hi)] at ht'
    simp only [Bool.and_eq_true] at ht'
    obtain ⟨h1, h2⟩ := ht'
    have hja : j ≠ a := by
      rintro rfl
      rw [decide_eq_true (p := (0 ≤ (j : Int) ∧ (j : Int) ≤ 63 ∧ (j : Int) = (j : Int))) (by omega)] at h2
      simp at h2
    unfold clr at h1
    split at h1
    · rw [clr_test] at h1
      simp [show ¬ 32 ≤ j from by omega] at h1
    · rename_i hia
      exact ⟨⟨hi, hj, h1⟩, hia, hja⟩
  · rintro ⟨⟨hi, hj, ht⟩, hia, hja⟩
    refine ⟨hi, hj, ?_⟩
    show (Sm.less (clr m a i) (a : Int)).testBit j = true
    rw [Sm.less_test _ _ (clr_ok a hm i hi)]
    unfold clr
    rw [if_neg hia, ht, decide_eq_false (p := (0 ≤ (a : Int) ∧ (a : Int) ≤ 63 ∧ (j : Int) = (a : Int))) (by omega)]
    rfl
open Classical in
/-- is there no way round? -/
noncomputable def free (m : Gr) : Bool := decide (∀ i, ¬ W (E m) i i)
theorem free_iff (m : Gr) : free m = true ↔ ∀ i, ¬ W (E m) i i := by unfold free; simp
theorem free_not (m : Gr) : free m = false ↔ ∃ i, W (E m) i i := by
  unfold free; simp

/-- a way in the graph with one edge more goes without it, or by it. -/
theorem put_way {m : Gr} {a b : Nat} (ha : a < 32) (hb : b < 32) {i j : Nat} (h : W (E (put m a b)) i j) :
    W (E m) i j ∨ ((i = a ∨ W (E m) i a) ∧ (j = b ∨ W (E m) b j)) := by
  induction h with
  | one h' =>
    rcases (put_E ha hb _ _).1 h' with h1 | ⟨rfl, rfl⟩
    · exact .inl (.one h1)
    · exact .inr ⟨.inl rfl, .inl rfl⟩
  | more _ h' ih =>
    rcases (put_E ha hb _ _).1 h' with h1 | ⟨rfl, rfl⟩
    · rcases ih with h2 | ⟨h2, h3⟩
      · exact .inl (.more h2 h1)
      · refine .inr ⟨h2, .inr ?_⟩
        rcases h3 with rfl | h3
        · exact .one h1
        · exact .more h3 h1
    · rcases ih with h2 | ⟨h2, h3⟩
      · exact .inr ⟨.inr h2, .inl rfl⟩
      · exact .inr ⟨h2, .inl rfl⟩
theorem put_up {m : Gr} {a b : Nat} (ha : a < 32) (hb : b < 32) {i j : Nat} (h : W (E m) i j) : W (E (put m a b)) i j :=
  h.mono fun _ _ h' => (put_E ha hb _ _).2 (.inl h')
theorem cut_down {m : Gr} (hm : Ok m) {a : Nat} (ha : a < 32) {i j : Nat} (h : W (E (cut m a)) i j) : W (E m) i j :=
  h.mono fun _ _ h' => ((cut_E hm ha _ _).1 h').1
theorem cut_from {m : Gr} (hm : Ok m) {a : Nat} (ha : a < 32) {j : Nat} : ¬ W (E (cut m a)) a j := by
  intro h
  rcases h.cases_head with h1 | ⟨_, h1, _⟩
  · exact ((cut_E hm ha _ _).1 h1).2.1 rfl
  · exact ((cut_E hm ha _ _).1 h1).2.1 rfl
theorem cut_to {m : Gr} (hm : Ok m) {a : Nat} (ha : a < 32) {i : Nat} : ¬ W (E (cut m a)) i a := by
  intro h
  cases h with
  | one h' => exact ((cut_E hm ha _ _).1 h').2.2 rfl
  | more _ h' => exact ((cut_E hm ha _ _).1 h').2.2 rfl
/-- an edge closes a graph without a way round just if its end reaches its beginning. -/
theorem put_closes {m : Gr} {a b : Nat} (ha : a < 32) (hb : b < 32) (hab : a ≠ b) (hf : free m = true) : free (put m a b) = !Sm.has (ways (E m) b) (a : Int) := by
  rw [Sm.has_nat _ (ways_lt _ _)]
  rw [free_iff] at hf
  cases hw : (ways (E m) b).testBit a
  · rw [Bool.not_false, free_iff]
    intro i h
    rcases put_way ha hb h with h1 | ⟨h1, h2⟩
    · exact hf i h1
    · have hn : ¬ W (E m) b a := fun h3 => by
        rw [(ways_test _ _ _).2 ⟨ha, h3⟩] at hw; cases hw
      rcases h1 with rfl | h1
      · rcases h2 with rfl | h2
        · exact hab rfl
        · exact hn h2
      · rcases h2 with rfl | h2
        · exact hn h1
        · exact hn (h2.trans h1)
  · rw [Bool.not_true, free_not]
    have := ((ways_test _ _ _).1 hw).2
    exact ⟨b, .more (put_up ha hb this) ((put_E ha hb _ _).2 (.inr ⟨rfl, rfl⟩))⟩
theorem put_still {m : Gr} {a b : Nat} (ha : a < 32) (hb : b < 32) (hf : free m = false) : free (put m a b) = false := by
  rw [free_not] at hf ⊢
  obtain ⟨i, h⟩ := hf
  exact ⟨i, put_up ha hb h⟩
/-- the other way. -/
theorem flip_way (m : Gr) (i j : Nat) : W (fun a b => E m b a) i j ↔ W (E m) j i :=
  ⟨fun h => h.flip, fun h => h.flip⟩
end Go.Proofs.YtfdfiiocccafkaaGreatDoor.Mm
namespace Go.Proofs.YtfdfiiocccafkaaGreatDoor.Mm
open Go.Proofs.YtfdfiiocccafkaaGreatDoor
structure Least (nx : Nat → Nat) (x R : Nat) : Prop where
  start : ∀ j, x.testBit j = true → R.testBit j = true
  step : ∀ i j, R.testBit i = true → (nx i).testBit j = true → R.testBit j = true
  least : ∀ S : Nat, (∀ j, x.testBit j = true → S.testBit j = true) → (∀ i j, S.testBit i = true → (nx i).testBit j = true → S.testBit j = true) → ∀ j, R.testBit j = true → S.testBit j = true
theorem Least.eq {nx : Nat → Nat} {x R S : Nat} (h : Least nx x R) (h2 : Least nx x S) : R = S := by
  apply Sm.ext; intro j
  rw [Bool.eq_iff_iff]
  exact ⟨h.least S h2.start h2.step j, h2.least R h.start h.step j⟩
theorem least_zero (nx : Nat → Nat) : Least nx 0 0 := ⟨fun j h => h, fun i j h => by simp at h, fun S _ _ j h => by simp at h⟩
theorem least_ways {nx : Nat → Nat} {e : Nat → Nat → Prop} (h : ∀ i j, (nx i).testBit j = true ↔ e i j) (hn : ∀ i, nx i < 4294967296) (a : Nat) : Least nx (nx a) (ways e a) := by
  refine ⟨fun j hj => (ways_test _ _ _).2 ⟨test32 (hn a) hj, .one ((h a j).1 hj)⟩, fun i j hi hj => ?_, fun S h1 h2 j hj => ?_⟩
  · exact (ways_test _ _ _).2 ⟨test32 (hn i) hj, .more ((ways_test _ _ _).1 hi).2 ((h i j).1 hj)⟩
  · have hw := ((ways_test _ _ _).1 hj).2
    clear hj
    induction hw with
    | one h' => exact h1 _ ((h _ _).2 h')
    | more _ h' ih => exact h2 _ _ ih ((h _ _).2 h')
theorem least_outs (m : Gr) (a : Nat) : Least (outs m) (outs m a) (ways (E m) a) := least_ways (fun i j => outs_test m i j) (outs_lt m) a
theorem least_ins (m : Gr) (a : Nat) : Least (ins m) (ins m a) (ways (fun i j => E m j i) a) := least_ways (fun i j => ins_test m i j) (ins_lt m) a
/-- all that is still to do. -/
structure Inv (nx : Nat → Nat) (x R d o : Nat) : Prop where
  dlt : d < 4294967296
  olt : o < 4294967296
  apart : ∀ j, o.testBit j = true → d.testBit j = false
  start : ∀ j, x.testBit j = true → d.testBit j = true ∨ o.testBit j = true
  sound : ∀ j, d.testBit j = true ∨ o.testBit j = true → R.testBit j = true
  step : ∀ i j, d.testBit i = true → (nx i).testBit j = true → d.testBit j = true ∨ o.testBit j = true
theorem inv_first {nx : Nat → Nat} {x R : Nat} (h : Least nx x R) (hx : x < 4294967296) : Inv nx x R 0 x :=
  ⟨by decide, hx, fun j _ => by simp, fun j hj => .inr hj, fun j hj => by
    rcases hj with hj | hj
    · simp at hj
    · exact h.start j hj, fun i j hi => by simp at hi⟩
theorem inv_last {nx : Nat → Nat} {x R d : Nat} (h : Least nx x R) (hi : Inv nx x R d 0) : d = R := by
  apply Sm.ext; intro j
  rw [Bool.eq_iff_iff]
  refine ⟨fun hj => hi.sound j (.inl hj), h.least d (fun j hj => ?_) (fun i j h1 h2 => ?_) j⟩
  · rcases hi.start j hj with h | h
    · exact h
    · simp at h
  · rcases hi.step i j h1 h2 with h | h
    · exact h
    · simp at h
theorem less_all {x d : Nat} (hd : d < 18446744073709551616) (hx : x < 18446744073709551616) (j : Nat) : (x &&& (18446744073709551615 - d)).testBit j = (x.testBit j && !d.testBit j) := by
  rw [Nat.testBit_and]
  have e : 18446744073709551615 - d = 2 ^ 64 - (d + 1) := by
    show 18446744073709551615 - d = 18446744073709551616 - (d + 1)
    omega
  rw [e, Nat.testBit_two_pow_sub_succ (by simpa using hd)]
  by_cases hj : j < 64
  · simp [hj]
  · rw [Sm.test_big hx (by omega)]; simp
def openN (nx : Nat → Nat) (d o b : Nat) : Nat := (o ||| nx b) &&& (18446744073709551615 - Sm.add d (b : Int))
theorem or_lt32 {x y : Nat} (hx : x < 4294967296) (hy : y < 4294967296) : x ||| y < 4294967296 := by
  have := Nat.or_lt_two_pow (n := 32) (x := x) (y := y) (by simpa using hx) (by simpa using hy)
  simpa using this
theorem add_same {x b : Nat} (hb : b < 32) (j : Nat) : (Sm.add x (b : Int)).testBit j = (x.testBit j || decide (j = b)) := by
  rw [Sm.add_test]
  congr 1
  rw [decide_eq_decide]; omega
theorem inv_next {nx : Nat → Nat} {x R d o b : Nat} (h : Least nx x R) (hn : ∀ i, nx i < 4294967296) (hi : Inv nx x R d o) (hb : o.testBit b = true) :
    Inv nx x R (Sm.add d (b : Int)) (openN nx d o b) ∧ d < Sm.add d (b : Int) := by
  have hb32 := test32 hi.olt hb
  have hd := hi.dlt
  have ho := hi.olt
  have hnb := hn b
  have hor := or_lt32 ho hnb
  have hdl : Sm.add d (b : Int) < 4294967296 := lt32 fun j hj => by
    rw [add_same hb32] at hj
    simp only [Bool.or_eq_true, decide_eq_true_eq] at hj
    rcases hj with hj | rfl
    · exact test32 hd hj
    · exact hb32
  have ot : ∀ j, (openN nx d o b).testBit j = ((o.testBit j || (nx b).testBit j) && !(d.testBit j || decide (j = b))) := fun j => by
    unfold openN
    rw [less_all (by omega) (by omega), add_same hb32, Nat.testBit_or]
  refine ⟨⟨hdl, Nat.lt_of_le_of_lt Nat.and_le_left hor, fun j hj => ?_, fun j hj => ?_, fun j hj => ?_, fun i j h1 h2 => ?_⟩, ?_⟩
  · rw [ot] at hj
    rw [add_same hb32]
    simp only [Bool.and_eq_true, Bool.not_eq_true'] at hj
    exact hj.2
  · rw [ot, add_same hb32]
    rcases hi.start j hj with h1 | h1
    · left; simp [h1]
    · cases hdj : d.testBit j
      · by_cases hjb : j = b
        · left; simp [hjb]
        · right; simp [h1, hjb]
      · left; simp
  · rw [ot, add_same hb32] at hj
    have hbR := hi.sound b (.inr hb)
    rcases hj with hj | hj
    · simp only [Bool.or_eq_true, decide_eq_true_eq] at hj
      rcases hj with hj | rfl
      · exact hi.sound j (.inl hj)
      · exact hbR
    · simp only [Bool.and_eq_true, Bool.or_eq_true] at hj
      rcases hj.1 with hj | hj
      · exact hi.sound j (.inr hj)
      · exact h.step b j hbR hj
  · rw [ot, add_same hb32]
    have key : d.testBit j = true ∨ (o.testBit j = true ∨ (nx b).testBit j = true) := by
      rw [add_same hb32] at h1
      simp only [Bool.or_eq_true, decide_eq_true_eq] at h1
      rcases h1 with h1 | rfl
      · rcases hi.step i j h1 h2 with h3 | h3
        · exact .inl h3
        · exact .inr (.inl h3)
      · exact .inr (.inr h2)
    cases hdj : d.testBit j
    · by_cases hjb : j = b
      · left; simp [hjb]
      · right
        rw [hdj] at key
        rcases key with h3 | h3
        · cases h3
        · rcases h3 with h3 | h3 <;> simp [h3, hjb]
    · left; simp
  · have hnot : d.testBit b = false := hi.apart b hb
    apply Nat.lt_of_le_of_ne (show d ≤ d ||| Sm.bit (b : Int) from Nat.left_le_or)
    intro he
    have h3 := congrArg (fun n => n.testBit b) he
    have h4 : d.testBit b = (Sm.add d (b : Int)).testBit b := h3
    rw [add_same hb32, hnot] at h4
    simp at h4
end Go.Proofs.YtfdfiiocccafkaaGreatDoor.Mm
namespace Go.Proofs.YtfdfiiocccafkaaGreatDoor.Od
open Go.Proofs.YtfdfiiocccafkaaGreatDoor Go.Proofs.YtfdfiiocccafkaaGreatDoor.Mm
abbrev O := Nat → Int
def Ok (o : O) : Prop := ∀ i, i < 32 → -9223372036854775808 ≤ o i ∧ o i ≤ 9223372036854775807
/-- each place is one node's. -/
def Right (o : O) : Prop := ∀ p : Nat, p < 32 → ∃ i, i < 32 ∧ o i = (p : Int)
def Sorted (m : Gr) (o : O) : Prop := Right o ∧ ∀ i j, E m i j → o i < o j
/-- the node of a place. -/
def at_ (o : O) (p : Nat) : Nat := ((List.range 32).find? fun i => o i == (p : Int)).getD 0
def pl (o : O) (i : Nat) : Nat := (o i).toNat
theorem at_spec {o : O} (h : Right o) {p : Nat} (hp : p < 32) : at_ o p < 32 ∧ o (at_ o p) = (p : Int) := by
  obtain ⟨i, hi, e⟩ := h p hp
  unfold at_
  cases hf : (List.range 32).find? fun i => o i == (p : Int) with
  | none =>
    rw [List.find?_eq_none] at hf
    have := hf i (by simpa using hi)
    simp [e] at this
  | some j =>
    have h1 := List.find?_some hf
    have h2 := List.mem_of_find?_eq_some hf
    simp at h1 h2
    exact ⟨h2, h1⟩
theorem len_le {l l' : List Nat} (hn : l.Nodup) (hs : ∀ x, x ∈ l → x ∈ l') : l.length ≤ l'.length := by
  induction l generalizing l' with
  | nil => simp
  | cons a l ih =>
    rw [List.nodup_cons] at hn
    have ha := hs a (by simp)
    have h1 := ih (l' := l'.erase a) hn.2 fun x hx => by
      have hne : x ≠ a := fun e => hn.1 (e ▸ hx)
      exact (List.mem_erase_of_ne hne).2 (hs x (by simp [hx]))
    have h2 := List.length_erase_of_mem ha
    have h3 : 0 < l'.length := List.length_pos_of_mem ha
    simp
    omega
theorem onto {f : Nat → Nat} {n : Nat} (hf : ∀ i, i < n → f i < n) (hi : ∀ i j, i < n → j < n → f i = f j → i = j) (k : Nat) (hk : k < n) : ∃ i, i < n ∧ f i = k := by
  apply Classical.byContradiction
  intro hc
  have hnd : ((List.range n).map f).Nodup := by
    unfold List.Nodup
    rw [List.pairwise_map]
    refine List.Pairwise.imp_of_mem ?_ (List.pairwise_lt_range (n := n))
    intro x y hx hy hlt e
    have := hi x y (by simpa using hx) (by simpa using hy) e
    omega
  have h := len_le (l := k :: (List.range n).map f) (l' := List.range n) (by
    rw [List.nodup_cons]
    refine ⟨?_, hnd⟩
    intro hm
    rw [List.mem_map] at hm
    obtain ⟨i, h1, h2⟩ := hm
    exact hc ⟨i, by simpa using h1, h2⟩) (by
    intro x hx
    rw [List.mem_cons] at hx
    rw [List.mem_range]
    rcases hx with rfl | hx
    · exact hk
    · rw [List.mem_map] at hx
      obtain ⟨i, h1, rfl⟩ := hx
      exact hf i (by simpa using h1))
  simp at h
  omega
theorem at_onto {o : O} (h : Right o) {i : Nat} (hi : i < 32) : ∃ p, p < 32 ∧ at_ o p = i :=
  onto (fun p hp => (at_spec h hp).1) (fun p q hp hq e => by
    have h1 := (at_spec h hp).2
    have h2 := (at_spec h hq).2
    rw [e] at h1
    omega) i hi
theorem Right.pl {o : O} (h : Right o) {i : Nat} (hi : i < 32) : o i = ((Od.pl o i : Nat) : Int) ∧ Od.pl o i < 32 ∧ at_ o (Od.pl o i) = i := by
  obtain ⟨p, hp, rfl⟩ := at_onto h hi
  have e := (at_spec h hp).2
  have e2 : Od.pl o (at_ o p) = p := by unfold Od.pl; rw [e]; rfl
  rw [e2]
  exact ⟨e, hp, rfl⟩
theorem Right.pl_at {o : O} (h : Right o) {p : Nat} (hp : p < 32) : Od.pl o (at_ o p) = p := by
  unfold Od.pl; rw [(at_spec h hp).2]; rfl
theorem Right.inj {o : O} (h : Right o) {i j : Nat} (hi : i < 32) (hj : j < 32) (e : o i = o j) : i = j := by
  have h1 := h.pl hi
  have h2 := h.pl hj
  have : Od.pl o i = Od.pl o j := by unfold Od.pl; rw [e]
  rw [← h1.2.2, ← h2.2.2, this]
theorem Right.at_eq {o : O} (h : Right o) {i p : Nat} (hi : i < 32) (e : o i = (p : Int)) : p < 32 ∧ at_ o p = i := by
  have h1 := h.pl hi
  have : Od.pl o i = p := by unfold Od.pl; rw [e]; rfl
  rw [this] at h1
  exact ⟨h1.2.1, h1.2.2⟩
theorem Right.at_inj {o : O} (h : Right o) {p q : Nat} (hp : p < 32) (hq : q < 32) (e : at_ o p = at_ o q) : p = q := by
  rw [← h.pl_at hp, ← h.pl_at hq, e]
theorem Right.ok {o : O} (h : Right o) : Ok o := fun i hi => by
  have := h.pl hi
  omega
/-- nodes, by rising places; those of a set; the places of a set. -/
def row (o : O) : List Nat := (List.range 32).map (at_ o)
def placesOf (o : O) (s : Nat) : List Nat := (List.range 32).filter fun p => s.testBit (at_ o p)
def standing (o : O) (s : Nat) : List Nat := (row o).filter fun i => s.testBit i
theorem standing_eq (o : O) (s : Nat) : standing o s = (placesOf o s).map (at_ o) := by
  unfold standing row placesOf
  rw [List.filter_map]
  rfl
theorem row_len (o : O) : (row o).length = 32 := by simp [row]
theorem row_get {o : O} {p : Nat} (hp : p < 32) : (row o)[p]? = some (at_ o p) := by simp [row, hp]
theorem places_len (o : O) (s : Nat) : (placesOf o s).length ≤ 32 := by
  have := List.length_filter_le (fun p => s.testBit (at_ o p)) (List.range 32)
  simpa [placesOf] using this
theorem standing_len (o : O) (s : Nat) : (standing o s).length ≤ 32 := by rw [standing_eq, List.length_map]; exact places_len o s
theorem places_rise (o : O) (s : Nat) : (placesOf o s).Pairwise (· < ·) := by
  unfold placesOf; exact List.Pairwise.filter _ List.pairwise_lt_range
theorem places_mem {o : O} {s p : Nat} : p ∈ placesOf o s ↔ p < 32 ∧ s.testBit (at_ o p) = true := by
  unfold placesOf; rw [List.mem_filter, List.mem_range]
theorem standing_mem {o : O} (h : Right o) {s i : Nat} : i ∈ standing o s ↔ i < 32 ∧ s.testBit i = true := by
  rw [standing_eq, List.mem_map]
  constructor
  · rintro ⟨p, hp, rfl⟩
    have hp := places_mem.1 hp
    exact ⟨(at_spec h hp.1).1, hp.2⟩
  · rintro ⟨hi, hs⟩
    have h1 := h.pl hi
    exact ⟨Od.pl o i, places_mem.2 ⟨h1.2.1, by rw [h1.2.2]; exact hs⟩, h1.2.2⟩
theorem rise_get {l : List Nat} (h : l.Pairwise (· < ·)) {i j : Nat} (hij : i < j) (hj : j < l.length) : l[i]'(by omega) < l[j] := by
  rw [List.pairwise_iff_getElem] at h
  exact h i j (by omega) hj hij
theorem rise_inv {l : List Nat} (h : l.Pairwise (· < ·)) {i j : Nat} (hi : i < l.length) (hj : j < l.length) (hlt : l[i] < l[j]) : i < j := by
  rcases Nat.lt_trichotomy i j with h1 | h1 | h1
  · exact h1
  · subst h1; omega
  · have := rise_get h h1 hi; omega
theorem sub_low {A P : List Nat} (hs : A.Sublist P) (hP : P.Pairwise (· < ·)) (i : Nat) (hi : i < A.length) : P[i]'(by have := hs.length_le; omega) ≤ A[i] := by
  induction hs generalizing i with
  | slnil => simp at hi
  | @cons A P p hs ih =>
    rw [List.pairwise_cons] at hP
    have h1 := ih hP.2
    cases i with
    | zero =>
      have h2 := h1 0 hi
      have h3 := hP.1 (P[0]'(by have := hs.length_le; omega)) (List.getElem_mem _)
      simp
      omega
    | succ i =>
      have h2 := h1 i (by omega)
      have h3 : A[i] < A[i + 1] := rise_get (hP.2.sublist hs) (Nat.lt_succ_self i) hi
      show P[i]'(by have := hs.length_le; omega) ≤ A[i + 1]
      omega
  | @cons_cons A P a hs ih =>
    rw [List.pairwise_cons] at hP
    cases i with
    | zero => simp
    | succ i =>
      simp at hi
      have := ih hP.2 i hi
      simpa using this
theorem sub_high {A P : List Nat} (hs : A.Sublist P) (hP : P.Pairwise (· < ·)) (i : Nat) (hi : i < A.length) : A[i] ≤ P[P.length - A.length + i]'(by have := hs.length_le; omega) := by
  induction hs generalizing i with
  | slnil => simp at hi
  | @cons A P p hs ih =>
    rw [List.pairwise_cons] at hP
    have h1 := ih hP.2 i hi
    have hl := hs.length_le
    have e : (p :: P).length - A.length + i = (P.length - A.length + i) + 1 := by simp; omega
    simp only [e, List.getElem_cons_succ]
    exact h1
  | @cons_cons A P a hs ih =>
    rw [List.pairwise_cons] at hP
    have hl := hs.length_le
    cases i with
    | zero =>
      have e : (a :: P).length - (a :: A).length + 0 = P.length - A.length := by simp
      simp only [e, List.getElem_cons_zero]
      have key : ∀ x, x ∈ a :: P → a ≤ x := fun x hx => by
        rw [List.mem_cons] at hx
        rcases hx with rfl | hx
        · exact Nat.le_refl _
        · exact Nat.le_of_lt (hP.1 x hx)
      exact key _ (List.getElem_mem _)
    | succ i =>
      simp at hi
      have := ih hP.2 i hi
      have e : (a :: P).length - (a :: A).length + (i + 1) = (P.length - A.length + i) + 1 := by simp; omega
      simp only [e, List.getElem_cons_succ]
      exact this
theorem filter_or {l : List Nat} {p q : Nat → Bool} (h : ∀ x, x ∈ l → ¬ (p x = true ∧ q x = true)) : (l.filter fun x => p x || q x).length = (l.filter p).length + (l.filter q).length := by
  induction l with
  | nil => rfl
  | cons a l ih =>
    have ih := ih fun x hx => h x (by simp [hx])
    have ha := h a (by simp)
    rw [List.filter_cons, List.filter_cons, List.filter_cons]
    cases hp : p a <;> cases hq : q a <;> simp [hp, hq] at ha ⊢ <;> simp [ih] <;> omega
/-- one place given anew; a row of these. -/
def upd (o : O) (i : Nat) (p : Int) : O := fun j => if j = i then p else o j
def give (o : O) : List (Nat × Nat) → O
  | [] => o
  | (i, p) :: l => give (upd o i (p : Nat)) l
theorem give_append (o : O) (l k : List (Nat × Nat)) : give o (l ++ k) = give (give o l) k := by
  induction l generalizing o with
  | nil => rfl
  | cons a l ih => exact ih _
theorem give_out {o : O} {l : List (Nat × Nat)} {i : Nat} (h : ∀ x, x ∈ l → x.1 ≠ i) : give o l i = o i := by
  induction l generalizing o with
  | nil => rfl
  | cons a l ih =>
    show give (upd o a.1 (a.2 : Nat)) l i = o i
    rw [ih fun x hx => h x (by simp [hx])]
    unfold upd
    rw [if_neg (fun e => h a (by simp) e.symm)]
theorem give_in {o : O} {l : List (Nat × Nat)} (hn : (l.map (·.1)).Nodup) {i p : Nat} (h : (i, p) ∈ l) : give o l i = (p : Int) := by
  induction l generalizing o with
  | nil => simp at h
  | cons a l ih =>
    show give (upd o a.1 (a.2 : Nat)) l i = _
    rw [List.map_cons, List.nodup_cons] at hn
    rw [List.mem_cons] at h
    rcases h with rfl | h
    · rw [give_out fun x hx e => hn.1 (List.mem_map.2 ⟨x, hx, e⟩)]
      simp [upd]
    · exact ih hn.2 h
theorem give_step {o : O} {L P : List Nat} {k i p : Nat} (hi : L[k]? = some i) (hp : P[k]? = some p) : upd (give o ((L.zip P).take k)) i (p : Nat) = give o ((L.zip P).take (k + 1)) := by
  have hz : (L.zip P)[k]? = some (i, p) := by
    rw [List.getElem?_zip_eq_some]; exact ⟨hi, hp⟩
  obtain ⟨hl, e⟩ := List.getElem?_eq_some_iff.1 hz
  rw [List.take_succ_eq_append_getElem hl, give_append, e]
  rfl
/-- the places that hind and fore had, rising, first to hind, then to fore. -/
def relay (o : O) (H F : Nat) : O := give o ((standing o H ++ standing o F).zip (placesOf o (H ||| F)))
section
variable {o : O} {H F : Nat}
/-- no node is in both. -/
def Apart (H F : Nat) : Prop := ∀ i, i < 32 → ¬ (H.testBit i = true ∧ F.testBit i = true)
theorem places_or (o : O) (H F : Nat) : placesOf o (H ||| F) = (List.range 32).filter fun p => H.testBit (at_ o p) || F.testBit (at_ o p) := by
  unfold placesOf; congr 1; funext p; rw [Nat.testBit_or]
theorem relay_len (h : Right o) (ha : Apart H F) : (placesOf o (H ||| F)).length = (placesOf o H).length + (placesOf o F).length := by
  rw [places_or]
  exact filter_or fun p hp => ha _ (at_spec h (by simpa using hp)).1
theorem sub_left (o : O) (H F : Nat) : (placesOf o H).Sublist (placesOf o (H ||| F)) := by
  have : placesOf o H = (placesOf o (H ||| F)).filter fun p => H.testBit (at_ o p) := by
    rw [places_or, List.filter_filter]
    unfold placesOf
    congr 1; funext p
    cases H.testBit (at_ o p) <;> simp
  rw [this]
  exact List.filter_sublist
theorem sub_right (o : O) (H F : Nat) : (placesOf o F).Sublist (placesOf o (H ||| F)) := by
  rw [Nat.or_comm]; exact sub_left o F H
theorem nodup_standing (h : Right o) (s : Nat) : (standing o s).Nodup := by
  rw [standing_eq]
  unfold List.Nodup
  rw [List.pairwise_map]
  refine List.Pairwise.imp_of_mem ?_ (places_rise o s)
  intro x y hx hy hlt e
  have := h.at_inj (places_mem.1 hx).1 (places_mem.1 hy).1 e
  omega
theorem nodup_both (h : Right o) (ha : Apart H F) : (standing o H ++ standing o F).Nodup := by
  rw [List.nodup_append]
  refine ⟨nodup_standing h H, nodup_standing h F, fun x hx y hy e => ?_⟩
  subst e
  have h1 := (standing_mem h).1 hx
  have h2 := (standing_mem h).1 hy
  exact ha x h1.1 ⟨h1.2, h2.2⟩
theorem both_len (h : Right o) (ha : Apart H F) : (standing o H ++ standing o F).length = (placesOf o (H ||| F)).length := by
  rw [relay_len h ha, List.length_append, standing_eq, standing_eq, List.length_map, List.length_map]
theorem relay_keys (h : Right o) (ha : Apart H F) : (((standing o H ++ standing o F).zip (placesOf o (H ||| F))).map (·.1)) = standing o H ++ standing o F := by
  have : ((standing o H ++ standing o F).zip (placesOf o (H ||| F))).map Prod.fst = standing o H ++ standing o F :=
    List.map_fst_zip (Nat.le_of_eq (both_len h ha))
  exact this
theorem relay_at (h : Right o) (ha : Apart H F) {k x p : Nat} (hx : (standing o H ++ standing o F)[k]? = some x) (hp : (placesOf o (H ||| F))[k]? = some p) : relay o H F x = (p : Int) := by
  unfold relay
  refine give_in (by rw [relay_keys h ha]; exact nodup_both h ha) ?_
  have : ((standing o H ++ standing o F).zip (placesOf o (H ||| F)))[k]? = some (x, p) := by
    rw [List.getElem?_zip_eq_some]; exact ⟨hx, hp⟩
  exact List.mem_of_getElem? this
theorem relay_out (h : Right o) {x : Nat} (h1 : H.testBit x = false) (h2 : F.testBit x = false) : relay o H F x = o x := by
  unfold relay
  refine give_out fun y hy e => ?_
  have hm : y.1 ∈ standing o H ++ standing o F := (List.of_mem_zip (a := y.1) (b := y.2) hy).1
  rw [e, List.mem_append] at hm
  rcases hm with hm | hm
  · rw [((standing_mem h).1 hm).2] at h1; cases h1
  · rw [((standing_mem h).1 hm).2] at h2; cases h2
/-- a node of hind has the place that stands where it stands in hind. -/
theorem relay_hind (h : Right o) (ha : Apart H F) {x : Nat} (hx : x < 32) (hH : H.testBit x = true) :
    ∃ k, ∃ (h1 : k < (placesOf o H).length) (h2 : k < (placesOf o (H ||| F)).length), (placesOf o H)[k] = pl o x ∧ relay o H F x = ((placesOf o (H ||| F))[k] : Nat) := by
  have hp := h.pl hx
  have hm : pl o x ∈ placesOf o H := places_mem.2 ⟨hp.2.1, by rw [hp.2.2]; exact hH⟩
  obtain ⟨k, hk, e⟩ := List.mem_iff_getElem.1 hm
  have hl := relay_len h ha
  refine ⟨k, hk, by omega, e, ?_⟩
  refine relay_at h ha (k := k) ?_ (List.getElem?_eq_getElem _)
  rw [List.getElem?_append_left (by rw [standing_eq, List.length_map]; exact hk), standing_eq, List.getElem?_map, List.getElem?_eq_getElem hk, e]
  simp [hp.2.2]
theorem relay_fore (h : Right o) (ha : Apart H F) {x : Nat} (hx : x < 32) (hF : F.testBit x = true) :
    ∃ k, ∃ (h1 : k < (placesOf o F).length) (h2 : (placesOf o H).length + k < (placesOf o (H ||| F)).length), (placesOf o F)[k] = pl o x ∧ relay o H F x = ((placesOf o (H ||| F))[(placesOf o H).length + k] : Nat) := by
  have hp := h.pl hx
  have hm : pl o x ∈ placesOf o F := places_mem.2 ⟨hp.2.1, by rw [hp.2.2]; exact hF⟩
  obtain ⟨k, hk, e⟩ := List.mem_iff_getElem.1 hm
  have hl := relay_len h ha
  have hs : (standing o H).length = (placesOf o H).length := by rw [standing_eq, List.length_map]
  refine ⟨k, hk, by omega, e, ?_⟩
  refine relay_at h ha (k := (placesOf o H).length + k) ?_ (List.getElem?_eq_getElem _)
  rw [List.getElem?_append_right (by rw [hs]; omega), hs, Nat.add_sub_cancel_left, standing_eq, List.getElem?_map, List.getElem?_eq_getElem hk, e]
  simp [hp.2.2]
theorem relay_mem (h : Right o) (ha : Apart H F) {x : Nat} (hx : x < 32) (hs : H.testBit x = true ∨ F.testBit x = true) : ∃ p : Nat, p ∈ placesOf o (H ||| F) ∧ relay o H F x = (p : Int) := by
  rcases hs with hs | hs
  · obtain ⟨k, _, h2, _, e⟩ := relay_hind h ha hx hs
    exact ⟨_, List.getElem_mem h2, e⟩
  · obtain ⟨k, _, h2, _, e⟩ := relay_fore h ha hx hs
    exact ⟨_, List.getElem_mem h2, e⟩
theorem relay_right (h : Right o) (ha : Apart H F) : Right (relay o H F) := by
  intro p hp
  have hsp := at_spec h hp
  by_cases hm : p ∈ placesOf o (H ||| F)
  · obtain ⟨k, hk, e⟩ := List.mem_iff_getElem.1 hm
    have hl := both_len h ha
    have hx : (standing o H ++ standing o F)[k]? = some ((standing o H ++ standing o F)[k]'(by omega)) := List.getElem?_eq_getElem _
    refine ⟨_, ?_, relay_at h ha hx (by rw [List.getElem?_eq_getElem hk, e])⟩
    have hmm := List.mem_of_getElem? hx
    rw [List.mem_append] at hmm
    rcases hmm with hmm | hmm <;> exact ((standing_mem h).1 hmm).1
  · refine ⟨at_ o p, hsp.1, ?_⟩
    have hn : (H ||| F).testBit (at_ o p) = false := by
      cases hb : (H ||| F).testBit (at_ o p)
      · rfl
      · exact absurd (places_mem.2 ⟨hp, hb⟩) hm
    rw [Nat.testBit_or, Bool.or_eq_false_iff] at hn
    rw [relay_out h hn.1 hn.2, hsp.2]
theorem relay_low (h : Right o) (ha : Apart H F) {x : Nat} (hx : x < 32) (hH : H.testBit x = true) : relay o H F x ≤ o x := by
  obtain ⟨k, h1, h2, e1, e2⟩ := relay_hind h ha hx hH
  have := sub_low (sub_left o H F) (places_rise _ _) k h1
  rw [e2, (h.pl hx).1, ← e1]
  omega
theorem relay_high (h : Right o) (ha : Apart H F) {x : Nat} (hx : x < 32) (hF : F.testBit x = true) : o x ≤ relay o H F x := by
  obtain ⟨k, h1, h2, e1, e2⟩ := relay_fore h ha hx hF
  have hl := relay_len h ha
  have := sub_high (sub_right o H F) (places_rise _ _) k h1
  have e : (placesOf o (H ||| F)).length - (placesOf o F).length + k = (placesOf o H).length + k := by omega
  simp only [e] at this
  rw [e2, (h.pl hx).1, ← e1]
  omega
theorem relay_hh (h : Right o) (ha : Apart H F) {x y : Nat} (hx : x < 32) (hy : y < 32) (h1 : H.testBit x = true) (h2 : H.testBit y = true) (hlt : o x < o y) : relay o H F x < relay o H F y := by
  obtain ⟨k, a1, a2, e1, e2⟩ := relay_hind h ha hx h1
  obtain ⟨l, b1, b2, f1, f2⟩ := relay_hind h ha hy h2
  have hp := (h.pl hx).1
  have hq := (h.pl hy).1
  have hkl := rise_inv (places_rise o H) a1 b1 (by omega)
  have := rise_get (places_rise o (H ||| F)) hkl b2
  rw [e2, f2]; omega
theorem relay_ff (h : Right o) (ha : Apart H F) {x y : Nat} (hx : x < 32) (hy : y < 32) (h1 : F.testBit x = true) (h2 : F.testBit y = true) (hlt : o x < o y) : relay o H F x < relay o H F y := by
  obtain ⟨k, a1, a2, e1, e2⟩ := relay_fore h ha hx h1
  obtain ⟨l, b1, b2, f1, f2⟩ := relay_fore h ha hy h2
  have hp := (h.pl hx).1
  have hq := (h.pl hy).1
  have hkl := rise_inv (places_rise o F) a1 b1 (by omega)
  have := rise_get (places_rise o (H ||| F)) (Nat.add_lt_add_left hkl (placesOf o H).length) b2
  rw [e2, f2]; omega
theorem relay_hf (h : Right o) (ha : Apart H F) {x y : Nat} (hx : x < 32) (hy : y < 32) (h1 : H.testBit x = true) (h2 : F.testBit y = true) : relay o H F x < relay o H F y := by
  obtain ⟨k, a1, a2, e1, e2⟩ := relay_hind h ha hx h1
  obtain ⟨l, b1, b2, f1, f2⟩ := relay_fore h ha hy h2
  have := rise_get (places_rise o (H ||| F)) (show k < (placesOf o H).length + l by omega) b2
  rw [e2, f2]; omega
end
end Go.Proofs.YtfdfiiocccafkaaGreatDoor.Od
namespace Go.Proofs.YtfdfiiocccafkaaGreatDoor.Od
open Go.Proofs.YtfdfiiocccafkaaGreatDoor Go.Proofs.YtfdfiiocccafkaaGreatDoor.Mm
/-- a node whose place is from that of b to that of a. -/
def In (o : O) (a b i : Nat) : Prop := i < 32 ∧ o b ≤ o i ∧ o i ≤ o a
def near (m : Gr) (o : O) (a b i j : Nat) : Prop := E m i j ∧ In o a b i ∧ In o a b j
noncomputable def fore (m : Gr) (o : O) (a b : Nat) : Nat := Sm.add (ways (near m o a b) b) (b : Int)
noncomputable def hind (m : Gr) (o : O) (a b : Nat) : Nat := Sm.add (ways (fun i j => near m o a b j i) a) (a : Int)
def band (o : O) (lo hi : Int) (n : Nat) : Nat := mk (fun i => decide (lo ≤ o i) && decide (o i ≤ hi)) n
theorem band_lt (o : O) (lo hi : Int) : band o lo hi 32 < 4294967296 := lt32 fun j h => by
  unfold band at h
  rw [mk_test _ _ _ (by decide)] at h
  simp at h
  exact h.1
theorem band_test (o : O) (a b j : Nat) : (band o (o b) (o a) 32).testBit j = true ↔ In o a b j := by
  unfold band In
  rw [mk_test _ _ _ (by decide)]
  simp
section
variable {m : Gr} {o : O} {a b : Nat}
theorem fore_test (hb : b < 32) (j : Nat) : (fore m o a b).testBit j = true ↔ j = b ∨ (j < 32 ∧ W (near m o a b) b j) := by
  unfold fore
  rw [add_same hb, Bool.or_eq_true, ways_test]
  simp
  exact Or.comm
theorem hind_test (ha : a < 32) (j : Nat) : (hind m o a b).testBit j = true ↔ j = a ∨ (j < 32 ∧ W (near m o a b) j a) := by
  unfold hind
  rw [add_same ha, Bool.or_eq_true, ways_test]
  simp
  constructor
  · rintro (⟨h1, h2⟩ | h)
    · exact .inr ⟨h1, h2.flip⟩
    · exact .inl h
  · rintro (h | ⟨h1, h2⟩)
    · exact .inr h
    · exact .inl ⟨h1, h2.flip⟩
theorem fore_lt (hb : b < 32) : fore m o a b < 4294967296 := lt32 fun j h => by
  rcases (fore_test hb j).1 h with rfl | h
  · exact hb
  · exact h.1
theorem hind_lt (ha : a < 32) : hind m o a b < 4294967296 := lt32 fun j h => by
  rcases (hind_test ha j).1 h with rfl | h
  · exact ha
  · exact h.1
theorem W.tail_in {i j : Nat} (h : W (near m o a b) i j) : In o a b j := by
  cases h with
  | one h' => exact h'.2.2
  | more _ h' => exact h'.2.2
theorem W.head_in {i j : Nat} (h : W (near m o a b) i j) : In o a b i := by
  rcases h.cases_head with h1 | ⟨k, h1, _⟩
  · exact h1.2.1
  · exact h1.2.1
theorem fore_in (hb : b < 32) (hle : o b ≤ o a) {j : Nat} (h : (fore m o a b).testBit j = true) : In o a b j := by
  rcases (fore_test hb j).1 h with rfl | h
  · exact ⟨hb, Int.le_refl _, hle⟩
  · exact W.tail_in h.2
theorem hind_in (ha : a < 32) (hle : o b ≤ o a) {j : Nat} (h : (hind m o a b).testBit j = true) : In o a b j := by
  rcases (hind_test ha j).1 h with rfl | h
  · exact ⟨ha, hle, Int.le_refl _⟩
  · exact W.head_in h.2
theorem fore_step (hb : b < 32) (hle : o b ≤ o a) {i j : Nat} (h : (fore m o a b).testBit i = true) (he : E m i j) (hj : In o a b j) : (fore m o a b).testBit j = true := by
  have hi := fore_in hb hle h
  refine (fore_test hb j).2 (.inr ⟨hj.1, ?_⟩)
  rcases (fore_test hb i).1 h with rfl | h
  · exact .one ⟨he, hi, hj⟩
  · exact .more h.2 ⟨he, hi, hj⟩
theorem hind_step (ha : a < 32) (hle : o b ≤ o a) {i j : Nat} (h : (hind m o a b).testBit j = true) (he : E m i j) (hi : In o a b i) : (hind m o a b).testBit i = true := by
  have hj := hind_in ha hle h
  refine (hind_test ha i).2 (.inr ⟨hi.1, ?_⟩)
  rcases (hind_test ha j).1 h with rfl | h
  · exact .one ⟨he, hi, hj⟩
  · exact W.head ⟨he, hi, hj⟩ h.2
theorem one_test {b : Nat} (hb : b < 32) (j : Nat) : (Sm.add 0 (b : Int)).testBit j = true ↔ j = b := by
  rw [add_same hb]; simp
theorem least_fore (hb : b < 32) (hle : o b ≤ o a) : Least (fun c => band o (o b) (o a) 32 &&& outs m c) (Sm.add 0 (b : Int)) (fore m o a b) := by
  refine ⟨fun j hj => ?_, fun i j hi hj => ?_, fun S h1 h2 j hj => ?_⟩
  · rw [(one_test hb j).1 hj]; exact (fore_test hb b).2 (.inl rfl)
  · rw [Nat.testBit_and, Bool.and_eq_true] at hj
    exact fore_step hb hle hi ((outs_test m i j).1 hj.2) ((band_test o a b j).1 hj.1)
  · have hbS : S.testBit b = true := h1 b ((one_test hb b).2 rfl)
    rcases (fore_test hb j).1 hj with rfl | ⟨h32, hw⟩
    · exact hbS
    · clear hj h32
      induction hw with
      | one h' => exact h2 _ _ hbS (by rw [Nat.testBit_and, (band_test o a b _).2 h'.2.2, (outs_test m _ _).2 h'.1]; rfl)
      | more _ h' ih => exact h2 _ _ ih (by rw [Nat.testBit_and, (band_test o a b _).2 h'.2.2, (outs_test m _ _).2 h'.1]; rfl)
theorem least_hind (ha : a < 32) (hle : o b ≤ o a) : Least (fun c => band o (o b) (o a) 32 &&& Mm.ins m c) (Sm.add 0 (a : Int)) (hind m o a b) := by
  refine ⟨fun j hj => ?_, fun i j hi hj => ?_, fun S h1 h2 j hj => ?_⟩
  · rw [(one_test ha j).1 hj]; exact (hind_test ha a).2 (.inl rfl)
  · rw [Nat.testBit_and, Bool.and_eq_true] at hj
    exact hind_step ha hle hi ((ins_test m i j).1 hj.2) ((band_test o a b j).1 hj.1)
  · have haS : S.testBit a = true := h1 a ((one_test ha a).2 rfl)
    rcases (hind_test ha j).1 hj with rfl | ⟨h32, hw⟩
    · exact haS
    · have hw' := hw.flip
      clear hj hw h32
      induction hw' with
      | one h' => exact h2 _ _ haS (by rw [Nat.testBit_and, (band_test o a b _).2 h'.2.1, (ins_test m _ _).2 h'.1]; rfl)
      | more _ h' ih => exact h2 _ _ ih (by rw [Nat.testBit_and, (band_test o a b _).2 h'.2.1, (ins_test m _ _).2 h'.1]; rfl)
theorem both_apart (ha : a < 32) (hb : b < 32) (hf : (fore m o a b).testBit a = false) : Apart (hind m o a b) (fore m o a b) := by
  rintro i _ ⟨h1, h2⟩
  have hna : ¬ (fore m o a b).testBit a = true := by rw [hf]; simp
  rcases (hind_test ha i).1 h1 with rfl | ⟨_, h1⟩
  · exact hna h2
  · refine hna ((fore_test hb a).2 (.inr ⟨ha, ?_⟩))
    rcases (fore_test hb i).1 h2 with rfl | ⟨_, h2⟩
    · exact h1
    · exact h2.trans h1
noncomputable def moved (m : Gr) (o : O) (a b : Nat) : O := relay o (hind m o a b) (fore m o a b)
theorem places_in (h : Right o) (ha : a < 32) (hb : b < 32) (hle : o b ≤ o a) {p : Nat} (hp : p ∈ placesOf o (hind m o a b ||| fore m o a b)) : o b ≤ (p : Int) ∧ (p : Int) ≤ o a := by
  have hp := places_mem.1 hp
  have hsp := at_spec h hp.1
  rw [Nat.testBit_or, Bool.or_eq_true] at hp
  have hin : In o a b (at_ o p) := by
    rcases hp.2 with h1 | h1
    · exact hind_in ha hle h1
    · exact fore_in hb hle h1
  rw [← hsp.2]
  exact hin.2
theorem moved_right (h : Right o) (ha : a < 32) (hb : b < 32) (hf : (fore m o a b).testBit a = false) : Right (moved m o a b) := relay_right h (both_apart ha hb hf)
theorem moved_out (h : Right o) (ha : a < 32) (hb : b < 32) (hle : o b ≤ o a) {i : Nat} (hi : ¬ In o a b i) : moved m o a b i = o i := by
  refine relay_out h ?_ ?_
  · cases hh : (hind m o a b).testBit i
    · rfl
    · exact absurd (hind_in ha hle hh) hi
  · cases hh : (fore m o a b).testBit i
    · rfl
    · exact absurd (fore_in hb hle hh) hi
theorem moved_in (h : Right o) (ha : a < 32) (hb : b < 32) (hle : o b ≤ o a) (hf : (fore m o a b).testBit a = false) {i : Nat} (hi : In o a b i) : o b ≤ moved m o a b i ∧ moved m o a b i ≤ o a := by
  by_cases hs : (hind m o a b).testBit i = true ∨ (fore m o a b).testBit i = true
  · obtain ⟨p, hp, e⟩ := relay_mem h (both_apart ha hb hf) hi.1 hs
    have := places_in h ha hb hle hp
    unfold moved
    rw [e]; exact this
  · have h1 : (hind m o a b).testBit i = false := by
      cases hh : (hind m o a b).testBit i
      · rfl
      · exact absurd (.inl hh) hs
    have h2 : (fore m o a b).testBit i = false := by
      cases hh : (fore m o a b).testBit i
      · rfl
      · exact absurd (.inr hh) hs
    unfold moved
    rw [relay_out h h1 h2]
    exact hi.2
theorem moved_new (h : Right o) (ha : a < 32) (hb : b < 32) (hf : (fore m o a b).testBit a = false) : moved m o a b a < moved m o a b b :=
  relay_hf h (both_apart ha hb hf) ha hb ((hind_test ha a).2 (.inl rfl)) ((fore_test hb b).2 (.inl rfl))
theorem moved_old (hs : Sorted m o) (ha : a < 32) (hb : b < 32) (hle : o b ≤ o a) (hf : (fore m o a b).testBit a = false) {i j : Nat} (he : E m i j) : moved m o a b i < moved m o a b j := by
  have h := hs.1
  have hap := both_apart (m := m) (o := o) ha hb hf
  have hlt := hs.2 i j he
  have hi := he.1
  have hj := he.2.1
  by_cases iH : (hind m o a b).testBit i = true
  · by_cases jH : (hind m o a b).testBit j = true
    · exact relay_hh h hap hi hj iH jH hlt
    · by_cases jF : (fore m o a b).testBit j = true
      · exact relay_hf h hap hi hj iH jF
      · have h1 := relay_low h hap hi iH
        have h2 : relay o (hind m o a b) (fore m o a b) j = o j := relay_out h (by simpa using jH) (by simpa using jF)
        unfold moved; omega
  · by_cases iF : (fore m o a b).testBit i = true
    · by_cases jF : (fore m o a b).testBit j = true
      · exact relay_ff h hap hi hj iF jF hlt
      · have hout : ¬ In o a b j := fun hin => jF (fore_step hb hle iF he hin)
        have h1 := moved_in h ha hb hle hf (fore_in hb hle iF)
        have h2 := moved_out (m := m) h ha hb hle hout
        have h3 := (fore_in hb hle iF).2
        have h4 : ¬ (o b ≤ o j ∧ o j ≤ o a) := fun hq => hout ⟨hj, hq⟩
        rw [h2]; omega
    · have h1 : moved m o a b i = o i := relay_out h (by simpa using iH) (by simpa using iF)
      by_cases jH : (hind m o a b).testBit j = true
      · have hout : ¬ In o a b i := fun hin => iH (hind_step ha hle jH he hin)
        have h2 := moved_in h ha hb hle hf (hind_in ha hle jH)
        have h3 := (hind_in ha hle jH).2
        have h4 : ¬ (o b ≤ o i ∧ o i ≤ o a) := fun hq => hout ⟨hi, hq⟩
        rw [h1]; omega
      · by_cases jF : (fore m o a b).testBit j = true
        · have h2 := relay_high h hap hj jF
          rw [h1]; unfold moved; omega
        · have h2 : moved m o a b j = o j := relay_out h (by simpa using jH) (by simpa using jF)
          rw [h1, h2]; exact hlt
theorem put_sorted (hs : Sorted m o) (ha : a < 32) (hb : b < 32) (hlt : o a < o b) : Sorted (put m a b) o :=
  ⟨hs.1, fun i j he => by
    rcases (put_E ha hb i j).1 he with h1 | ⟨rfl, rfl⟩
    · exact hs.2 i j h1
    · exact hlt⟩
theorem moved_sorted (hs : Sorted m o) (ha : a < 32) (hb : b < 32) (hle : o b ≤ o a) (hf : (fore m o a b).testBit a = false) : Sorted (put m a b) (moved m o a b) :=
  ⟨moved_right hs.1 ha hb hf, fun i j he => by
    rcases (put_E ha hb i j).1 he with h1 | ⟨rfl, rfl⟩
    · exact moved_old hs ha hb hle hf h1
    · exact moved_new hs.1 ha hb hf⟩
theorem sorted_way (hs : Sorted m o) {i j : Nat} (h : W (E m) i j) : o i < o j := by
  induction h with
  | one h' => exact hs.2 _ _ h'
  | more _ h' ih => have := hs.2 _ _ h'; omega
theorem sorted_free (hs : Sorted m o) : free m = true := (free_iff m).2 fun i hw => by
  have := sorted_way hs hw; omega
theorem fore_closes (hs : Sorted m o) (ha : a < 32) (hb : b < 32) (hab : a ≠ b) (hf : (fore m o a b).testBit a = true) : free (put m a b) = false := by
  rw [put_closes ha hb hab (sorted_free hs), Sm.has_nat _ (ways_lt _ _)]
  rcases (fore_test hb a).1 hf with h | ⟨_, hw⟩
  · exact absurd h hab
  · rw [(ways_test _ _ _).2 ⟨ha, hw.mono fun _ _ h => h.1⟩]; rfl
end
/-- may there be an edge from a to b? -/
def May (a b : Int) : Prop := (0 ≤ a ∧ a < 32) ∧ (0 ≤ b ∧ b < 32) ∧ a ≠ b
open Classical in
/-- the graph and the order with an edge more, and whether there is one. -/
noncomputable def insert (m : Gr) (o : O) (a b : Int) : Gr × O × Bool :=
  if May a b ∧ Sorted m o then
    if o a.toNat < o b.toNat then (put m a.toNat b.toNat, o, true)
    else if (fore m o a.toNat b.toNat).testBit a.toNat = true then (m, o, false)
    else (put m a.toNat b.toNat, moved m o a.toNat b.toNat, true)
  else (m, o, false)
theorem insert_no {m : Gr} {o : O} {a b : Int} (h : ¬ (May a b ∧ Sorted m o)) : insert m o a b = (m, o, false) := by unfold insert; rw [if_neg h]
theorem may_nat {a b : Nat} (ha : a < 32) (hb : b < 32) (hab : a ≠ b) : May (a : Int) (b : Int) := ⟨by omega, by omega, by omega⟩
theorem insert_up {m : Gr} {o : O} {a b : Nat} (ha : a < 32) (hb : b < 32) (hab : a ≠ b) (hs : Sorted m o) (hlt : o a < o b) : insert m o a b = (put m a b, o, true) := by
  unfold insert
  rw [if_pos ⟨may_nat ha hb hab, hs⟩]
  simp only [Int.toNat_natCast]
  rw [if_pos hlt]
theorem insert_round {m : Gr} {o : O} {a b : Nat} (ha : a < 32) (hb : b < 32) (hab : a ≠ b) (hs : Sorted m o) (hlt : o b ≤ o a) (hf : (fore m o a b).testBit a = true) : insert m o a b = (m, o, false) := by
  unfold insert
  rw [if_pos ⟨may_nat ha hb hab, hs⟩]
  simp only [Int.toNat_natCast]
  rw [if_neg (by omega), if_pos hf]
theorem insert_down {m : Gr} {o : O} {a b : Nat} (ha : a < 32) (hb : b < 32) (hab : a ≠ b) (hs : Sorted m o) (hlt : o b ≤ o a) (hf : (fore m o a b).testBit a = false) : insert m o a b = (put m a b, moved m o a b, true) := by
  unfold insert
  rw [if_pos ⟨may_nat ha hb hab, hs⟩]
  simp only [Int.toNat_natCast]
  rw [if_neg (by omega), if_neg (by rw [hf]; simp)]
theorem insert_cases (m : Gr) (o : O) (a b : Int) (P : Gr × O × Bool → Prop) (h1 : ¬ (May a b ∧ Sorted m o) → P (m, o, false))
    (h2 : ∀ x y : Nat, a = (x : Int) → b = (y : Int) → x < 32 → y < 32 → x ≠ y → Sorted m o → o x < o y → P (put m x y, o, true))
    (h3 : ∀ x y : Nat, a = (x : Int) → b = (y : Int) → x < 32 → y < 32 → x ≠ y → Sorted m o → o y ≤ o x → (fore m o x y).testBit x = true → P (m, o, false))
    (h4 : ∀ x y : Nat, a = (x : Int) → b = (y : Int) → x < 32 → y < 32 → x ≠ y → Sorted m o → o y ≤ o x → (fore m o x y).testBit x = false → P (put m x y, moved m o x y, true)) : P (insert m o a b) := by
  by_cases h : May a b ∧ Sorted m o
  · obtain ⟨⟨⟨a0, a1⟩, ⟨b0, b1⟩, hne⟩, hs⟩ := h
    obtain ⟨x, rfl⟩ := Int.eq_ofNat_of_zero_le a0
    obtain ⟨y, rfl⟩ := Int.eq_ofNat_of_zero_le b0
    have hx : x < 32 := by omega
    have hy : y < 32 := by omega
    have hxy : x ≠ y := by omega
    by_cases hlt : o x < o y
    · rw [insert_up hx hy hxy hs hlt]; exact h2 x y rfl rfl hx hy hxy hs hlt
    · cases hf : (fore m o x y).testBit x
      · rw [insert_down hx hy hxy hs (by omega) hf]; exact h4 x y rfl rfl hx hy hxy hs (by omega) hf
      · rw [insert_round hx hy hxy hs (by omega) hf]; exact h3 x y rfl rfl hx hy hxy hs (by omega) hf
  · rw [insert_no h]; exact h1 h
theorem insert_sorted {m : Gr} {o : O} (a b : Int) (hs : Sorted m o) : Sorted (insert m o a b).1 (insert m o a b).2.1 :=
  insert_cases m o a b (fun r => Sorted r.1 r.2.1) (fun _ => hs) (fun _ _ _ _ hx hy _ _ hlt => put_sorted hs hx hy hlt) (fun _ _ _ _ _ _ _ _ _ _ => hs)
    (fun _ _ _ _ hx hy _ _ hle hf => moved_sorted hs hx hy hle hf)
theorem insert_ok {m : Gr} {o : O} (a b : Int) (hm : Mm.Ok m) : Mm.Ok (insert m o a b).1 :=
  insert_cases m o a b (fun r => Mm.Ok r.1) (fun _ => hm) (fun _ _ _ _ _ _ _ _ _ => put_ok _ _ hm) (fun _ _ _ _ _ _ _ _ _ _ => hm) (fun _ _ _ _ _ _ _ _ _ _ => put_ok _ _ hm)
theorem insert_okO {m : Gr} {o : O} (a b : Int) (ho : Ok o) : Ok (insert m o a b).2.1 :=
  insert_cases m o a b (fun r => Ok r.2.1) (fun _ => ho) (fun _ _ _ _ _ _ _ _ _ => ho) (fun _ _ _ _ _ _ _ _ _ _ => ho) (fun _ _ _ _ hx hy _ hs _ hf => (moved_right hs.1 hx hy hf).ok)
def newO : O := fun i => (i : Int)
theorem new_right : Right newO := fun p hp => ⟨p, hp, rfl⟩
theorem new_sorted {m : Gr} (h : ∀ i j, ¬ E m i j) : Sorted m newO := ⟨new_right, fun i j he => absurd he (h i j)⟩
open Classical in
noncomputable def rightB (o : O) : Bool := decide (Right o)
open Classical in
noncomputable def sortedB (m : Gr) (o : O) : Bool := decide (Sorted m o)
theorem rightB_yes {o : O} (h : Right o) : rightB o = true := by unfold rightB; simp [h]
theorem rightB_no {o : O} (h : ¬ Right o) : rightB o = false := by unfold rightB; simp [h]
theorem sortedB_yes {m : Gr} {o : O} (h : Sorted m o) : sortedB m o = true := by unfold sortedB; simp [h]
theorem sortedB_no {m : Gr} {o : O} (h : ¬ Sorted m o) : sortedB m o = false := by unfold sortedB; simp [h]
theorem rightB_iff (o : O) : rightB o = true ↔ Right o := by unfold rightB; simp
theorem sortedB_iff (m : Gr) (o : O) : sortedB m o = true ↔ Sorted m o := by unfold sortedB; simp
end Go.Proofs.YtfdfiiocccafkaaGreatDoor.Od
