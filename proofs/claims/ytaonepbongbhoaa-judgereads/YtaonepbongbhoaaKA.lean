/-
  Plain mathematics of sets of small numbers as natural numbers below two to the 64th: what with, less, has, items and count are, and how they go together. Nothing of the program.
  Plain mathematics: how many numbers a set has, reckoned by adding up bits in fields of two, four and eight; and the least number of a set. Nothing of the program.
  Plain mathematics of graphs of 32 nodes as 32 sets: edges, ways, what is reached; how an edge more, or a node without its edges, changes that. Nothing of the program.
  Plain mathematics of 64-bit floats, over the model's own core: a finite word is a whole number of the least unit; whole numbers from 0 to 2^53 are exact; what is cut towards zero is a quotient.
  Plain mathematics of spans: which words are parts of a span, how two parts stand, and what comes of spans, as pairs of natural numbers.
  Steps and what the calls of layer 8 make of a transaction, in plain mathematics: no program in it.
  What the calls of layer 10 make of a row of values, in plain mathematics: no program in it.
  Rows of events, and how each transaction of one went, in plain mathematics: no program in it.
  The least set that has some numbers and, of each that it has, all that a function tells; how one comes to it number by number. Nothing of the program.
-/
import Derived.Lib.TrailingZeros
import Derived.Laws.FloatArith
import Derived.WalkKit
namespace Go.Proofs.Ytaonepbongbhoaa.Sm

def bit (i : Int) : Nat := if 0 ≤ i ∧ i ≤ 63 then 2 ^ i.toNat else 0
def has (x : Nat) (i : Int) : Bool := decide (0 ≤ i) && (decide (i ≤ 63) && x.testBit i.toNat)
def add (x : Nat) (i : Int) : Nat := x ||| bit i
def less (x : Nat) (i : Int) : Nat := x &&& (18446744073709551615 - bit i)
def items (x : Nat) : List Nat := (List.range 64).filter fun i => x.testBit i
def count (x : Nat) : Nat := (items x).length

theorem bit_in {i : Int} (h0 : 0 ≤ i) (h1 : i ≤ 63) : bit i = 2 ^ i.toNat := by unfold bit; rw [if_pos ⟨h0, h1⟩]
theorem bit_out {i : Int} (h : i < 0 ∨ 63 < i) : bit i = 0 := by unfold bit; rw [if_neg (by omega)]
theorem bit_lt (i : Int) : bit i < 18446744073709551616 := by
  unfold bit
  split
  · rename_i h
    have : (2 : Nat) ^ i.toNat < 2 ^ 64 := Nat.pow_lt_pow_right (by decide) (by omega)
    simpa using this
  · decide
theorem bit_test (i : Int) (j : Nat) : (bit i).testBit j = decide (0 ≤ i ∧ i ≤ 63 ∧ (j : Int) = i) := by
  unfold bit
  split
  · rename_i h
    rw [Nat.testBit_two_pow]
    rw [Bool.eq_iff_iff]; simp; omega
  · rename_i h
    rw [Nat.zero_testBit, eq_comm, decide_eq_false_iff_not]
    omega
theorem has_and (x : Nat) (i : Int) : has x i = ((x &&& bit i) != 0) := by
  unfold has
  by_cases h : 0 ≤ i ∧ i ≤ 63
  · have e : (x &&& bit i != 0) = x.testBit i.toNat := by
      rw [bit_in h.1 h.2]
      cases hx : x.testBit i.toNat
      · have : x &&& 2 ^ i.toNat = 0 := by
          apply Nat.eq_of_testBit_eq; intro j
          rw [Nat.testBit_and, Nat.testBit_two_pow, Nat.zero_testBit]
          by_cases hj : i.toNat = j
          · subst hj; simp [hx]
          · simp [hj]
        simp [this]
      · have : x &&& 2 ^ i.toNat ≠ 0 := by
          intro hz
          have := congrArg (fun n => n.testBit i.toNat) hz
          rw [Nat.zero_testBit] at this
          simp [Nat.testBit_and, hx] at this
        simp [this]
    rw [e, decide_eq_true h.1, decide_eq_true h.2]; rfl
  · rw [bit_out (by omega)]
    simp
    intro h0 h1
    omega
theorem add_test (x : Nat) (i : Int) (j : Nat) : (add x i).testBit j = (x.testBit j || decide (0 ≤ i ∧ i ≤ 63 ∧ (j : Int) = i)) := by
  unfold add; rw [Nat.testBit_or, bit_test]
theorem add_lt {x : Nat} (i : Int) (h : x < 18446744073709551616) : add x i < 18446744073709551616 := by
  have := Nat.or_lt_two_pow (n := 64) (x := x) (y := bit i) (by simpa using h) (by simpa using bit_lt i)
  simpa [add] using this
theorem less_lt {x : Nat} (i : Int) (h : x < 18446744073709551616) : less x i < 18446744073709551616 :=
  Nat.lt_of_le_of_lt Nat.and_le_left h
theorem less_test {x : Nat} (i : Int) (j : Nat) (h : x < 18446744073709551616) : (less x i).testBit j = (x.testBit j && !decide (0 ≤ i ∧ i ≤ 63 ∧ (j : Int) = i)) := by
  unfold less
  rw [Nat.testBit_and]
  have e : 18446744073709551615 - bit i = 2 ^ 64 - (bit i + 1) := by
    show 18446744073709551615 - bit i = 18446744073709551616 - (bit i + 1)
    omega
  rw [e, Nat.testBit_two_pow_sub_succ (by simpa using bit_lt i), bit_test]
  by_cases hj : j < 64
  · simp [hj]
  · have : x.testBit j = false := Nat.testBit_lt_two_pow (Nat.lt_of_lt_of_le h (by
      have : (2 : Nat) ^ 64 ≤ 2 ^ j := Nat.pow_le_pow_right (by decide) (by omega)
      simpa using this))
    simp [this]
theorem test_big {x j : Nat} (h : x < 18446744073709551616) (hj : 64 ≤ j) : x.testBit j = false :=
  Nat.testBit_lt_two_pow (Nat.lt_of_lt_of_le h (by
      have : (2 : Nat) ^ 64 ≤ 2 ^ j := Nat.pow_le_pow_right (by decide) hj
      simpa using this))
theorem has_nat {x : Nat} (k : Nat) (h : x < 18446744073709551616) : has x (k : Int) = x.testBit k := by
  unfold has
  by_cases hk : k < 64
  · have : (k : Int) ≤ 63 := by omega
    simp [this]
  · have := test_big (j := k) h (by omega)
    simp [this]
theorem has_eq {x : Nat} (i : Int) (h0 : 0 ≤ i) (h : x < 18446744073709551616) : has x i = x.testBit i.toNat := by
  obtain ⟨n, rfl⟩ := Int.eq_ofNat_of_zero_le h0
  exact has_nat n h
theorem has_neg {x : Nat} {i : Int} (h : i < 0) : has x i = false := by unfold has; simp; omega
theorem ext {x y : Nat} (h : ∀ j, x.testBit j = y.testBit j) : x = y := Nat.eq_of_testBit_eq h

/-- one number more: all others as before. -/
theorem has_add_other (x : Nat) (i k : Int) (hx : x < 18446744073709551616) (h : k ≠ i) : has (add x i) k = has x k := by
  by_cases hk : 0 ≤ k
  · rw [has_eq k hk (add_lt i hx), has_eq k hk hx, add_test]
    have : ¬ (0 ≤ i ∧ i ≤ 63 ∧ ((k.toNat : Nat) : Int) = i) := by omega
    rw [decide_eq_false this]; simp
  · rw [has_neg (by omega), has_neg (by omega)]
theorem has_less_other (x : Nat) (i k : Int) (hx : x < 18446744073709551616) (h : k ≠ i) : has (less x i) k = has x k := by
  by_cases hk : 0 ≤ k
  · rw [has_eq k hk (less_lt i hx), has_eq k hk hx, less_test _ _ hx]
    have : ¬ (0 ≤ i ∧ i ≤ 63 ∧ ((k.toNat : Nat) : Int) = i) := by omega
    rw [decide_eq_false this]; simp
  · rw [has_neg (by omega), has_neg (by omega)]
theorem has_add_same (x : Nat) (i : Int) (hx : x < 18446744073709551616) : has (add x i) i = (decide (0 ≤ i) && decide (i < 64)) := by
  by_cases hk : 0 ≤ i
  · rw [has_eq i hk (add_lt i hx), add_test]
    by_cases h63 : i < 64
    · have : (0 ≤ i ∧ i ≤ 63 ∧ ((i.toNat : Nat) : Int) = i) := by omega
      simp [this, h63]
    · have : ¬ (0 ≤ i ∧ i ≤ 63 ∧ ((i.toNat : Nat) : Int) = i) := by omega
      rw [test_big hx (by omega), decide_eq_false this, decide_eq_false h63]; simp
  · rw [has_neg (by omega)]; simp; omega
theorem has_less_same (x : Nat) (i : Int) (hx : x < 18446744073709551616) : has (less x i) i = false := by
  by_cases hk : 0 ≤ i
  · rw [has_eq i hk (less_lt i hx), less_test _ _ hx]
    by_cases h63 : i < 64
    · have : (0 ≤ i ∧ i ≤ 63 ∧ ((i.toNat : Nat) : Int) = i) := by omega
      simp [this]
    · rw [test_big hx (by omega)]; rfl
  · rw [has_neg (by omega)]

theorem items_lt {x k : Nat} (h : k ∈ items x) : k < 64 := by
  unfold items at h; rw [List.mem_filter, List.mem_range] at h; exact h.1
theorem items_mem {x k : Nat} : k ∈ items x ↔ k < 64 ∧ x.testBit k = true := by
  unfold items; rw [List.mem_filter, List.mem_range]
theorem items_len (x : Nat) : (items x).length ≤ 64 := by
  unfold items; have := List.length_filter_le (fun i => x.testBit i) (List.range 64); simpa using this
theorem items_rise (x : Nat) : (items x).Pairwise (· < ·) := by
  unfold items; exact List.Pairwise.filter _ List.pairwise_lt_range
theorem items_zero : items 0 = [] := by unfold items; simp
theorem zero_of_items {x : Nat} (h : x < 18446744073709551616) (hi : items x = []) : x = 0 := by
  apply ext; intro j
  rw [Nat.zero_testBit]
  by_cases hj : j < 64
  · have : j ∉ items x := by rw [hi]; simp
    rw [items_mem] at this
    cases hx : x.testBit j
    · rfl
    · exact absurd ⟨hj, hx⟩ this
  · exact test_big h (by omega)

/-- the least number first, and then those of the set without it. -/
theorem items_cons {x k : Nat} (h : x < 18446744073709551616) (hk : k < 64) (ht : x.testBit k = true) (hl : ∀ j, j < k → x.testBit j = false) :
    items x = k :: items (less x (k : Int)) := by
  have e : List.range 64 = List.range k ++ k :: List.range' (k + 1) (63 - k) := by
    rw [List.range_eq_range', List.range_eq_range']
    have e1 : (64 : Nat) = k + (64 - k) := by omega
    rw [show List.range' 0 64 = List.range' 0 (k + (64 - k)) from by rw [← e1], ← List.range'_append_1]
    congr 1
    rw [show 64 - k = (63 - k) + 1 from by omega, List.range'_succ]
    simp
  unfold items
  rw [e, List.filter_append, List.filter_append, List.filter_cons, List.filter_cons]
  have f1 : (List.range k).filter (fun i => x.testBit i) = [] := by
    rw [List.filter_eq_nil_iff]; intro a ha; rw [List.mem_range] at ha; simp [hl a ha]
  have f2 : (List.range k).filter (fun i => (less x (k : Int)).testBit i) = [] := by
    rw [List.filter_eq_nil_iff]; intro a ha; rw [List.mem_range] at ha; rw [less_test _ _ h]; simp [hl a ha]
  have f3 : (less x (k : Int)).testBit k = false := by rw [less_test _ _ h]; simp; omega
  rw [f1, f2, ht, f3]
  simp only [List.nil_append, if_true]
  rw [if_neg (by simp)]
  congr 1
  apply List.filter_congr
  intro a ha
  rw [List.mem_range'_1] at ha
  rw [less_test _ _ h]
  have : ¬ (0 ≤ (k : Int) ∧ (k : Int) ≤ 63 ∧ ((a : Nat) : Int) = (k : Int)) := by omega
  rw [decide_eq_false this]; simp
theorem less_count {x k : Nat} (h : x < 18446744073709551616) (hk : k < 64) (ht : x.testBit k = true) (hl : ∀ j, j < k → x.testBit j = false) :
    count x = count (less x (k : Int)) + 1 := by
  unfold count; rw [items_cons h hk ht hl]; rfl

/-- all numbers of a list. -/
def ofL (x : Nat) : List Int → Nat
  | [] => x
  | i :: l => ofL (add x i) l
theorem ofL_append (x : Nat) (a b : List Int) : ofL x (a ++ b) = ofL (ofL x a) b := by
  induction a generalizing x with
  | nil => rfl
  | cons i l ih => exact ih _
theorem ofL_snoc (x : Nat) (a : List Int) (i : Int) : ofL x (a ++ [i]) = add (ofL x a) i := by rw [ofL_append]; rfl
theorem ofL_lt {x : Nat} (l : List Int) (h : x < 18446744073709551616) : ofL x l < 18446744073709551616 := by
  induction l generalizing x with
  | nil => exact h
  | cons i l ih => exact ih (add_lt i h)
theorem ofL_test (x : Nat) (l : List Int) (j : Nat) (hj : j < 64) : (ofL x l).testBit j = (x.testBit j || decide ((j : Int) ∈ l)) := by
  induction l generalizing x with
  | nil => simp [ofL]
  | cons i l ih =>
    show (ofL (add x i) l).testBit j = _
    rw [ih, add_test, Bool.eq_iff_iff]
    simp
    constructor
    · rintro ((h | h) | h)
      · exact .inl h
      · exact .inr (.inl h.2.2)
      · exact .inr (.inr h)
    · rintro (h | h | h)
      · exact .inl (.inl h)
      · exact .inl (.inr ⟨by omega, by omega, h⟩)
      · exact .inr h
/-- a set is all its numbers, in whatever order. -/
theorem ofL_items {x : Nat} (l : List Int) (h : x < 18446744073709551616) (hl : ∀ j : Nat, j < 64 → ((j : Int) ∈ l ↔ j ∈ items x)) : ofL 0 l = x := by
  apply ext; intro j
  by_cases hj : j < 64
  · rw [ofL_test _ _ _ hj, Nat.zero_testBit, Bool.false_or]
    have := hl j hj
    rw [items_mem] at this
    cases hx : x.testBit j
    · simp [this, hx]
    · simp [this, hx, hj]
  · rw [test_big (ofL_lt l (by decide)) (by omega), test_big h (by omega)]
end Go.Proofs.Ytaonepbongbhoaa.Sm
namespace Go.Proofs.Ytaonepbongbhoaa.Sm

def m5 : Nat → Nat
  | 0 => 0
  | n + 1 => 85 + 256 * m5 n
def m3 : Nat → Nat
  | 0 => 0
  | n + 1 => 51 + 256 * m3 n
def mF : Nat → Nat
  | 0 => 0
  | n + 1 => 15 + 256 * mF n
def q1 (n x : Nat) : Nat := (x / 2 &&& m5 n) + (x &&& m5 n)
def q2 (n y : Nat) : Nat := (y / 4 &&& m3 n) + (y &&& m3 n)
def q3 (n y : Nat) : Nat := (y / 16 + y) &&& mF n
def c1 (b : Nat) : Nat := (b / 2 &&& 85) + (b &&& 85)
def c2 (b : Nat) : Nat := (b / 4 &&& 51) + (b &&& 51)
def c3 (b : Nat) : Nat := (b / 16 + b) &&& 15

theorem and_split (a b : Nat) : a &&& b = (a % 256 &&& b % 256) + 256 * (a / 256 &&& b / 256) := by
  have h1 : (a &&& b) % 2 ^ 8 = (a % 2 ^ 8) &&& (b % 2 ^ 8) := Nat.and_mod_two_pow
  have h2 : (a &&& b) / 2 ^ 8 = a / 2 ^ 8 &&& b / 2 ^ 8 := Nat.and_div_two_pow
  simp only [show (2 : Nat) ^ 8 = 256 from rfl] at h1 h2
  rw [← h1, ← h2]; omega
theorem and_split' (a A b B : Nat) (ha : a < 256) (hb : b < 256) : (a + 256 * A) &&& (b + 256 * B) = (a &&& b) + 256 * (A &&& B) := by
  rw [and_split, show (a + 256 * A) % 256 = a from by omega, show (b + 256 * B) % 256 = b from by omega, show (a + 256 * A) / 256 = A from by omega, show (b + 256 * B) / 256 = B from by omega]

theorem d1 : ∀ b < 256, ∀ c < 2, (b / 2 + 128 * c) &&& 85 = b / 2 &&& 85 := by decide +kernel
theorem d2 : ∀ b < 256, ∀ c < 4, (b / 4 + 64 * c) &&& 51 = b / 4 &&& 51 := by decide +kernel
theorem d3 : ∀ b < 69, ∀ c < 5, (b / 16 + 16 * c + b) &&& 15 = (b / 16 + b) &&& 15 := by decide +kernel
theorem e1 : ∀ b < 256, c1 b < 256 := by decide +kernel
theorem e2 : ∀ b < 256, c2 (c1 b) < 69 ∧ c2 (c1 b) % 16 < 5 := by decide +kernel
theorem e3 : ∀ b < 256, c3 (c2 (c1 b)) = ((List.range 8).filter fun i => b.testBit i).length := by decide +kernel
theorem e4 : ∀ b < 256, c3 (c2 (c1 b)) < 9 := by decide +kernel

theorem q1_succ (n b X : Nat) (hb : b < 256) : q1 (n + 1) (b + 256 * X) = c1 b + 256 * q1 n X := by
  unfold q1 c1
  rw [show m5 (n + 1) = 85 + 256 * m5 n from rfl, show (b + 256 * X) / 2 = (b / 2 + 128 * (X % 2)) + 256 * (X / 2) from by omega, and_split' _ _ _ _ (by omega) (by decide), and_split' _ _ _ _ hb (by decide), d1 b hb _ (by omega)]
  omega
theorem q2_succ (n b X : Nat) (hb : b < 256) : q2 (n + 1) (b + 256 * X) = c2 b + 256 * q2 n X := by
  unfold q2 c2
  rw [show m3 (n + 1) = 51 + 256 * m3 n from rfl, show (b + 256 * X) / 4 = (b / 4 + 64 * (X % 4)) + 256 * (X / 4) from by omega, and_split' _ _ _ _ (by omega) (by decide), and_split' _ _ _ _ hb (by decide), d2 b hb _ (by omega)]
  omega
theorem q3_succ (n b X : Nat) (hb : b < 69) (hX : X % 16 < 5) : q3 (n + 1) (b + 256 * X) = c3 b + 256 * q3 n X := by
  unfold q3 c3
  rw [show mF (n + 1) = 15 + 256 * mF n from rfl, show (b + 256 * X) / 16 + (b + 256 * X) = (b / 16 + 16 * (X % 16) + b) + 256 * (X / 16 + X) from by omega, and_split' _ _ _ _ (by omega) (by decide), d3 b hb _ hX]
def t12 (n x : Nat) : Nat := q2 n (q1 n x)
theorem t12_succ (n b X : Nat) (hb : b < 256) : t12 (n + 1) (b + 256 * X) = c2 (c1 b) + 256 * t12 n X := by
  unfold t12; rw [q1_succ _ _ _ hb, q2_succ _ _ _ (e1 b hb)]
theorem t12_low (n x : Nat) : t12 n x % 16 < 5 := by
  cases n with
  | zero => simp [t12, q1, q2, m5, m3]
  | succ n =>
    rw [show x = x % 256 + 256 * (x / 256) from by omega, t12_succ _ _ _ (by omega)]
    have := (e2 (x % 256) (by omega)).2
    omega
def t123 (n x : Nat) : Nat := q3 n (t12 n x)
theorem t123_succ (n x : Nat) : t123 (n + 1) x = c3 (c2 (c1 (x % 256))) + 256 * t123 n (x / 256) := by
  unfold t123
  rw [show t12 (n + 1) x = c2 (c1 (x % 256)) + 256 * t12 n (x / 256) from by
    have := t12_succ n (x % 256) (x / 256) (by omega)
    rwa [show x % 256 + 256 * (x / 256) = x from by omega] at this, q3_succ _ _ _ (e2 _ (by omega)).1 (t12_low _ _)]
def cnt (n x : Nat) : Nat := ((List.range (8 * n)).filter fun i => x.testBit i).length
theorem cnt_succ (n x : Nat) : cnt (n + 1) x = c3 (c2 (c1 (x % 256))) + cnt n (x / 256) := by
  unfold cnt
  rw [e3 _ (by omega), show 8 * (n + 1) = 8 + 8 * n from by omega, List.range_add, List.filter_append, List.length_append]
  congr 1
  · congr 1
    apply List.filter_congr
    intro i hi
    rw [List.mem_range] at hi
    rw [show (256 : Nat) = 2 ^ 8 from rfl, Nat.testBit_mod_two_pow]
    simp [hi]
  · rw [List.filter_map, List.length_map]
    congr 1
    apply List.filter_congr
    intro i _
    show x.testBit (8 + i) = _
    rw [show (256 : Nat) = 2 ^ 8 from rfl, Nat.testBit_div_two_pow, Nat.add_comm]
theorem m5_8 : m5 8 = 6148914691236517205 := by decide +kernel
theorem m3_8 : m3 8 = 3689348814741910323 := by decide +kernel
theorem mF_8 : mF 8 = 1085102592571150095 := by decide +kernel
def num8 (f0 f1 f2 f3 f4 f5 f6 f7 : Nat) : Nat := f0 + 256 * (f1 + 256 * (f2 + 256 * (f3 + 256 * (f4 + 256 * (f5 + 256 * (f6 + 256 * f7))))))
theorem num8_div1 (f0 f1 f2 f3 f4 f5 f6 f7 : Nat) (h0 : f0 < 256) : num8 f0 f1 f2 f3 f4 f5 f6 f7 / 256 = num8 f1 f2 f3 f4 f5 f6 f7 0 := by unfold num8; omega
theorem num8_div2 (f0 f1 f2 f3 f4 f5 f6 f7 : Nat) (h0 : f0 < 256) (h1 : f1 < 256) : num8 f0 f1 f2 f3 f4 f5 f6 f7 / 65536 = num8 f2 f3 f4 f5 f6 f7 0 0 := by
  rw [show (65536 : Nat) = 256 * 256 from rfl, ← Nat.div_div_eq_div_mul, num8_div1 _ _ _ _ _ _ _ _ h0, num8_div1 _ _ _ _ _ _ _ _ h1]
theorem num8_div4 (f0 f1 f2 f3 f4 f5 f6 f7 : Nat) (h0 : f0 < 256) (h1 : f1 < 256) (h2 : f2 < 256) (h3 : f3 < 256) : num8 f0 f1 f2 f3 f4 f5 f6 f7 / 4294967296 = num8 f4 f5 f6 f7 0 0 0 0 := by
  rw [show (4294967296 : Nat) = 65536 * 65536 from rfl, ← Nat.div_div_eq_div_mul, num8_div2 _ _ _ _ _ _ _ _ h0 h1, num8_div2 _ _ _ _ _ _ _ _ h2 h3]
theorem num8_add (f0 f1 f2 f3 f4 f5 f6 f7 g0 g1 g2 g3 g4 g5 g6 g7 : Nat) : num8 f0 f1 f2 f3 f4 f5 f6 f7 + num8 g0 g1 g2 g3 g4 g5 g6 g7 = num8 (f0 + g0) (f1 + g1) (f2 + g2) (f3 + g3) (f4 + g4) (f5 + g5) (f6 + g6) (f7 + g7) := by
  unfold num8; omega
theorem num8_lt (f0 f1 f2 f3 f4 f5 f6 f7 : Nat) (h0 : f0 < 128) (h1 : f1 < 128) (h2 : f2 < 128) (h3 : f3 < 128) (h4 : f4 < 128) (h5 : f5 < 128) (h6 : f6 < 128) (h7 : f7 < 128) : num8 f0 f1 f2 f3 f4 f5 f6 f7 < 9223372036854775808 := by unfold num8; omega
theorem num8_mod (f0 f1 f2 f3 f4 f5 f6 f7 : Nat) (h0 : f0 < 128) : num8 f0 f1 f2 f3 f4 f5 f6 f7 % 128 = f0 := by unfold num8; omega
theorem sum8 (f0 f1 f2 f3 f4 f5 f6 f7 y z1 z2 z3 : Nat) (h0 : f0 < 9) (h1 : f1 < 9) (h2 : f2 < 9) (h3 : f3 < 9) (h4 : f4 < 9) (h5 : f5 < 9) (h6 : f6 < 9) (h7 : f7 < 9)
    (hy : y = num8 f0 f1 f2 f3 f4 f5 f6 f7)
    (e1 : z1 = y + y / 256) (e2 : z2 = z1 + z1 / 65536) (e3 : z3 = z2 + z2 / 4294967296) :
    z1 < 9223372036854775808 ∧ z2 < 9223372036854775808 ∧ z3 < 9223372036854775808 ∧ z3 % 128 = f0 + f1 + f2 + f3 + f4 + f5 + f6 + f7 := by
  rw [hy, num8_div1 _ _ _ _ _ _ _ _ (by omega), num8_add] at e1
  rw [e1, num8_div2 _ _ _ _ _ _ _ _ (by omega) (by omega), num8_add] at e2
  rw [e2, num8_div4 _ _ _ _ _ _ _ _ (by omega) (by omega) (by omega) (by omega), num8_add] at e3
  refine ⟨?_, ?_, ?_, ?_⟩
  · rw [e1]; apply num8_lt <;> omega
  · rw [e2]; apply num8_lt <;> omega
  · rw [e3]; apply num8_lt <;> omega
  · rw [e3, num8_mod _ _ _ _ _ _ _ _ (by omega)]; omega
/-- the three steps, and then the three sums. -/
def z1 (x : Nat) : Nat := t123 8 x + t123 8 x / 256
def z2 (x : Nat) : Nat := z1 x + z1 x / 65536
def z3 (x : Nat) : Nat := z2 x + z2 x / 4294967296
theorem pop (x : Nat) : t123 8 x < 9223372036854775808 ∧ z1 x < 9223372036854775808 ∧ z2 x < 9223372036854775808 ∧ z3 x < 9223372036854775808 ∧ z3 x % 128 = count x := by
  have hc : count x = cnt 8 x := rfl
  have hl := fun k => e4 (k % 256) (Nat.mod_lt _ (by decide))
  have hz0 : ∀ k, t123 0 k = 0 := fun k => by simp [t123, q3, mF]
  have hz1 : ∀ k, cnt 0 k = 0 := fun k => by simp [cnt]
  have ht : t123 8 x = c3 (c2 (c1 (x % 256))) + 256 * (c3 (c2 (c1 (x / 256 % 256))) + 256 * (c3 (c2 (c1 (x / 256 / 256 % 256))) + 256 * (c3 (c2 (c1 (x / 256 / 256 / 256 % 256))) + 256 * (c3 (c2 (c1 (x / 256 / 256 / 256 / 256 % 256))) + 256 * (c3 (c2 (c1 (x / 256 / 256 / 256 / 256 / 256 % 256))) + 256 * (c3 (c2 (c1 (x / 256 / 256 / 256 / 256 / 256 / 256 % 256))) + 256 * (c3 (c2 (c1 (x / 256 / 256 / 256 / 256 / 256 / 256 / 256 % 256))) + 256 * (0)))))))) := by rw [t123_succ 7, t123_succ 6, t123_succ 5, t123_succ 4, t123_succ 3, t123_succ 2, t123_succ 1, t123_succ 0, hz0]
  have hk : cnt 8 x = c3 (c2 (c1 (x % 256))) + (c3 (c2 (c1 (x / 256 % 256))) + (c3 (c2 (c1 (x / 256 / 256 % 256))) + (c3 (c2 (c1 (x / 256 / 256 / 256 % 256))) + (c3 (c2 (c1 (x / 256 / 256 / 256 / 256 % 256))) + (c3 (c2 (c1 (x / 256 / 256 / 256 / 256 / 256 % 256))) + (c3 (c2 (c1 (x / 256 / 256 / 256 / 256 / 256 / 256 % 256))) + (c3 (c2 (c1 (x / 256 / 256 / 256 / 256 / 256 / 256 / 256 % 256))) + 0))))))) := by rw [cnt_succ 7, cnt_succ 6, cnt_succ 5, cnt_succ 4, cnt_succ 3, cnt_succ 2, cnt_succ 1, cnt_succ 0, hz1]
  rw [hc, hk]
  have := sum8 _ _ _ _ _ _ _ _ (t123 8 x) (z1 x) (z2 x) (z3 x) (hl x) (hl (x / 256)) (hl (x / 256 / 256)) (hl (x / 256 / 256 / 256)) (hl (x / 256 / 256 / 256 / 256)) (hl (x / 256 / 256 / 256 / 256 / 256)) (hl (x / 256 / 256 / 256 / 256 / 256 / 256)) (hl (x / 256 / 256 / 256 / 256 / 256 / 256 / 256)) (by rw [ht]; unfold num8; omega) rfl rfl rfl
  refine ⟨?_, this.1, this.2.1, this.2.2.1, by rw [this.2.2.2]; omega⟩
  exact Nat.lt_of_le_of_lt (by show t123 8 x ≤ t123 8 x + t123 8 x / 256; omega) this.1
theorem q1_lt (x : Nat) : q1 8 x < 18446744073709551616 := by
  have h1 : x / 2 &&& m5 8 ≤ m5 8 := Nat.and_le_right
  have h2 : x &&& m5 8 ≤ m5 8 := Nat.and_le_right
  rw [m5_8] at h1 h2
  unfold q1; rw [m5_8]; omega
theorem q2_lt (x : Nat) : q2 8 x < 9223372036854775808 := by
  have h1 : x / 4 &&& m3 8 ≤ m3 8 := Nat.and_le_right
  have h2 : x &&& m3 8 ≤ m3 8 := Nat.and_le_right
  rw [m3_8] at h1 h2
  unfold q2; rw [m3_8]; omega

/-- the least number. -/
def first (x : Nat) : Nat := Lib.ctz 64 x
theorem first_spec {x : Nat} (h0 : x ≠ 0) (h : x < 18446744073709551616) : first x < 64 ∧ x.testBit (first x) = true ∧ ∀ j, j < first x → x.testBit j = false := by
  unfold first Lib.ctz
  rw [if_neg h0]
  obtain ⟨m, hm, hk⟩ := Lib.ctzFrom_spec 64 x (by omega) (by simpa using h)
  generalize Lib.ctzFrom 64 x = k at *
  refine ⟨hk, ?_, ?_⟩
  · rw [hm, Nat.mul_comm, Nat.testBit_mul_two_pow]; simp
  · intro j hj
    rw [hm, Nat.mul_comm, Nat.testBit_mul_two_pow]; simp; omega
end Go.Proofs.Ytaonepbongbhoaa.Sm
namespace Go.Proofs.Ytaonepbongbhoaa.Mm
open Go.Proofs.Ytaonepbongbhoaa

abbrev Gr := Nat → Nat
/-- each row is a set. -/
def Ok (m : Gr) : Prop := ∀ i, i < 32 → m i < 18446744073709551616
/-- an edge. -/
def E (m : Gr) (i j : Nat) : Prop := i < 32 ∧ j < 32 ∧ (m i).testBit j = true
/-- edges, one at least, one behind the other. -/
inductive W (e : Nat → Nat → Prop) : Nat → Nat → Prop
  | one {i j} : e i j → W e i j
  | more {i j k} : W e i j → e j k → W e i k
theorem W.trans {e : Nat → Nat → Prop} {i j k : Nat} (h : W e i j) (h2 : W e j k) : W e i k := by
  induction h2 with
  | one h' => exact .more h h'
  | more _ h' ih => exact .more ih h'
theorem W.head {e : Nat → Nat → Prop} {i j k : Nat} (h : e i j) (h2 : W e j k) : W e i k := (W.one h).trans h2
theorem W.mono {e f : Nat → Nat → Prop} (hf : ∀ i j, e i j → f i j) {i j : Nat} (h : W e i j) : W f i j := by
  induction h with
  | one h' => exact .one (hf _ _ h')
  | more _ h' ih => exact .more ih (hf _ _ h')
theorem W.flip {e : Nat → Nat → Prop} {i j : Nat} (h : W e i j) : W (fun a b => e b a) j i := by
  induction h with
  | one h' => exact .one h'
  | more _ h' ih => exact W.head (e := fun a b => e b a) h' ih
theorem W.cases_head {e : Nat → Nat → Prop} {i k : Nat} (h : W e i k) : e i k ∨ ∃ j, e i j ∧ W e j k := by
  induction h with
  | one h' => exact .inl h'
  | more _ h' ih =>
    rcases ih with h1 | ⟨j, h1, h2⟩
    · exact .inr ⟨_, h1, .one h'⟩
    · exact .inr ⟨j, h1, .more h2 h'⟩
theorem W.nodes {m : Gr} {i j : Nat} (h : W (E m) i j) : i < 32 ∧ j < 32 := by
  induction h with
  | one h' => exact ⟨h'.1, h'.2.1⟩
  | more _ h' ih => exact ⟨ih.1, h'.2.1⟩

/-- the set of all that p tells, below n. -/
def mk (p : Nat → Bool) : Nat → Nat
  | 0 => 0
  | n + 1 => if p n then Sm.add (mk p n) (n : Int) else mk p n
theorem mk_lt (p : Nat → Bool) (n : Nat) : mk p n < 18446744073709551616 := by
  induction n with
  | zero => simp [mk]
  | succ n ih => unfold mk; split; exact Sm.add_lt _ ih; exact ih
theorem mk_test (p : Nat → Bool) (n j : Nat) (hn : n ≤ 64) : (mk p n).testBit j = (decide (j < n) && p j) := by
  induction n with
  | zero => simp [mk]
  | succ n ih =>
    have ih := ih (by omega)
    unfold mk
    by_cases hj : j = n
    · subst hj
      split
      · rename_i h
        rw [Sm.add_test, ih, decide_eq_true (p := (0 ≤ (j : Int) ∧ (j : Int) ≤ 63 ∧ (j : Int) = (j : Int))) (by omega)]
        simp [h]
      · rename_i h
        rw [ih]; simp [h]
    · have e : decide (j < n + 1) = decide (j < n) := by rw [decide_eq_decide]; omega
      split
      · rw [Sm.add_test, ih, decide_eq_false (p := (0 ≤ (n : Int) ∧ (n : Int) ≤ 63 ∧ (j : Int) = (n : Int))) (by omega), e]
        simp
      · rw [ih, e]
open Classical in
/-- all that a way goes to. -/
noncomputable def ways (e : Nat → Nat → Prop) (i : Nat) : Nat := mk (fun j => decide (W e i j)) 32
theorem ways_lt (e : Nat → Nat → Prop) (i : Nat) : ways e i < 18446744073709551616 := mk_lt _ _
theorem ways_test (e : Nat → Nat → Prop) (i j : Nat) : (ways e i).testBit j = true ↔ j < 32 ∧ W e i j := by
  unfold ways
  rw [mk_test _ _ _ (by omega)]
  simp
theorem ways_eq {e : Nat → Nat → Prop} {i R : Nat} (h : ∀ j, R.testBit j = true ↔ j < 32 ∧ W e i j) : R = ways e i := by
  apply Sm.ext; intro j
  rw [Bool.eq_iff_iff, h j, ways_test]
theorem ways_congr {e f : Nat → Nat → Prop} {i k : Nat} (h : ∀ j, W e i j ↔ W f k j) : ways e i = ways f k :=
  ways_eq fun j => by rw [ways_test, h j]
theorem lt32 {x : Nat} (h : ∀ j, x.testBit j = true → j < 32) : x < 4294967296 := by
  have := Nat.lt_pow_two_of_testBit x (n := 32) (fun i hi => by
    cases hb : x.testBit i
    · rfl
    · have := h i hb; omega)
  simpa using this
theorem ways_lt32 (e : Nat → Nat → Prop) (i : Nat) : ways e i < 4294967296 := lt32 fun j h => ((ways_test e i j).1 h).1
theorem test32 {x j : Nat} (h : x < 4294967296) (hj : x.testBit j = true) : j < 32 := by
  apply Classical.byContradiction
  intro hn
  rw [Nat.testBit_lt_two_pow (Nat.lt_of_lt_of_le h (by
    have : (2 : Nat) ^ 32 ≤ 2 ^ j := Nat.pow_le_pow_right (by decide) (by omega)
    simpa using this))] at hj
  cases hj

/-- all that one edge goes to, from which one comes. -/
def outs (m : Gr) (i : Nat) : Nat := if i < 32 then m i % 4294967296 else 0
def ins (m : Gr) (i : Nat) : Nat := if i < 32 then mk (fun j => (m j).testBit i) 32 else 0
theorem outs_lt (m : Gr) (i : Nat) : outs m i < 4294967296 := by
  unfold outs; split
  · exact Nat.mod_lt _ (by decide)
  · decide
theorem outs_test (m : Gr) (i j : Nat) : (outs m i).testBit j = true ↔ E m i j := by
  unfold outs E
  split
  · rename_i h
    rw [show (4294967296 : Nat) = 2 ^ 32 from rfl, Nat.testBit_mod_two_pow]
    simp [h]
  · rename_i h
    simp [h]
theorem ins_test (m : Gr) (i j : Nat) : (ins m i).testBit j = true ↔ E m j i := by
  unfold ins E
  split
  · rename_i h
    rw [mk_test _ _ _ (by omega)]
    simp [h]
  · rename_i h
    simp [h]
theorem ins_lt (m : Gr) (i : Nat) : ins m i < 4294967296 := lt32 fun j h => ((ins_test m i j).1 h).1

/-- the graph with an edge more, and without a node's edges. -/
def put (m : Gr) (a b : Nat) : Gr := fun i => if i = a then Sm.add (m i) (b : Int) else m i
def clr (m : Gr) (a : Nat) : Gr := fun i => if i = a then m i - m i % 4294967296 else m i
/-- the first k rows without a. -/
def cutTo (m : Gr) (a k : Nat) : Gr := fun i => if i < k then Sm.less (m i) (a : Int) else m i
def cut (m : Gr) (a : Nat) : Gr := fun i => Sm.less (clr m a i) (a : Int)
theorem put_ok {m : Gr} (a b : Nat) (h : Ok m) : Ok (put m a b) := by
  intro i hi
  unfold put
  split
  · exact Sm.add_lt _ (h i hi)
  · exact h i hi
theorem clr_ok {m : Gr} (a : Nat) (h : Ok m) : Ok (clr m a) := by
  intro i hi
  unfold clr
  split
  · have := h i hi; omega
  · exact h i hi
theorem cut_ok {m : Gr} (a : Nat) (h : Ok m) : Ok (cut m a) := fun i hi => Sm.less_lt _ (clr_ok a h i hi)
theorem put_E {m : Gr} {a b : Nat} (ha : a < 32) (hb : b < 32) (i j : Nat) : E (put m a b) i j ↔ E m i j ∨ (i = a ∧ j = b) := by
  unfold E put
  by_cases h : i = a
  · subst h
    rw [if_pos rfl, Sm.add_test]
    by_cases hj : j = b
    · subst hj
      rw [decide_eq_true (p := (0 ≤ (j : Int) ∧ (j : Int) ≤ 63 ∧ (j : Int) = (j : Int))) (by omega)]
      simp [ha, hb]
    · rw [decide_eq_false (p := (0 ≤ (b : Int) ∧ (b : Int) ≤ 63 ∧ (j : Int) = (b : Int))) (by omega)]
      simp [hj]
  · rw [if_neg h]
    simp [h]
theorem clr_test (x j : Nat) : (x - x % 4294967296).testBit j = (x.testBit j && decide (32 ≤ j)) := by
  have e : x - x % 4294967296 = 2 ^ 32 * (x / 2 ^ 32) + 0 := by
    have := Nat.div_add_mod x (2 ^ 32)
    simp only [Nat.reducePow] at this ⊢
    omega
  rw [e, Nat.testBit_two_pow_mul_add _ (by decide)]
  by_cases h : j < 32
  · simp [h]
  · rw [if_neg h, Nat.testBit_div_two_pow]
    simp [show 32 ≤ j from by omega]
theorem cut_E {m : Gr} (hm : Ok m) {a : Nat} (ha : a < 32) (i j : Nat) : E (cut m a) i j ↔ E m i j ∧ i ≠ a ∧ j ≠ a := by
  unfold E
  constructor
  · rintro ⟨hi, hj, ht⟩
    have ht' : (Sm.less (clr m a i) (a : Int)).testBit j = true := ht
    rw [Sm.less_test _ _ (clr_ok a hm i hi)] at ht'
    simp only [Bool.and_eq_true] at ht'
    obtain ⟨h1, h2⟩ := ht'
    have hja : j ≠ a := by
      rintro rfl
      rw [decide_eq_true (p := (0 ≤ (j : Int) ∧ (j : Int) ≤ 63 ∧ (j : Int) = (j : Int))) (by omega)] at h2
      simp at h2
    unfold clr at h1
    split at h1
    · rw [clr_test] at h1
      simp [show ¬ 32 ≤ j from by omega] at h1
    · rename_i hia
      exact ⟨⟨hi, hj, h1⟩, hia, hja⟩
  · rintro ⟨⟨hi, hj, ht⟩, hia, hja⟩
    refine ⟨hi, hj, ?_⟩
    show (Sm.less (clr m a i) (a : Int)).testBit j = true
    rw [Sm.less_test _ _ (clr_ok a hm i hi)]
    unfold clr
    rw [if_neg hia, ht, decide_eq_false (p := (0 ≤ (a : Int) ∧ (a : Int) ≤ 63 ∧ (j : Int) = (a : Int))) (by omega)]
    rfl
open Classical in
/-- is there no way round? -/
noncomputable def free (m : Gr) : Bool := decide (∀ i, ¬ W (E m) i i)
theorem free_iff (m : Gr) : free m = true ↔ ∀ i, ¬ W (E m) i i := by unfold free; simp
theorem free_not (m : Gr) : free m = false ↔ ∃ i, W (E m) i i := by
  unfold free; simp

/-- a way in the graph with one edge more goes without it, or by it. -/
theorem put_way {m : Gr} {a b : Nat} (ha : a < 32) (hb : b < 32) {i j : Nat} (h : W (E (put m a b)) i j) :
    W (E m) i j ∨ ((i = a ∨ W (E m) i a) ∧ (j = b ∨ W (E m) b j)) := by
  induction h with
  | one h' =>
    rcases (put_E ha hb _ _).1 h' with h1 | ⟨rfl, rfl⟩
    · exact .inl (.one h1)
    · exact .inr ⟨.inl rfl, .inl rfl⟩
  | more _ h' ih =>
    rcases (put_E ha hb _ _).1 h' with h1 | ⟨rfl, rfl⟩
    · rcases ih with h2 | ⟨h2, h3⟩
      · exact .inl (.more h2 h1)
      · refine .inr ⟨h2, .inr ?_⟩
        rcases h3 with rfl | h3
        · exact .one h1
        · exact .more h3 h1
    · rcases ih with h2 | ⟨h2, h3⟩
      · exact .inr ⟨.inr h2, .inl rfl⟩
      · exact .inr ⟨h2, .inl rfl⟩
theorem put_up {m : Gr} {a b : Nat} (ha : a < 32) (hb : b < 32) {i j : Nat} (h : W (E m) i j) : W (E (put m a b)) i j :=
  h.mono fun _ _ h' => (put_E ha hb _ _).2 (.inl h')
theorem cut_down {m : Gr} (hm : Ok m) {a : Nat} (ha : a < 32) {i j : Nat} (h : W (E (cut m a)) i j) : W (E m) i j :=
  h.mono fun _ _ h' => ((cut_E hm ha _ _).1 h').1
theorem cut_from {m : Gr} (hm : Ok m) {a : Nat} (ha : a < 32) {j : Nat} : ¬ W (E (cut m a)) a j := by
  intro h
  rcases h.cases_head with h1 | ⟨_, h1, _⟩
  · exact ((cut_E hm ha _ _).1 h1).2.1 rfl
  · exact ((cut_E hm ha _ _).1 h1).2.1 rfl
theorem cut_to {m : Gr} (hm : Ok m) {a : Nat} (ha : a < 32) {i : Nat} : ¬ W (E (cut m a)) i a := by
  intro h
  cases h with
  | one h' => exact ((cut_E hm ha _ _).1 h').2.2 rfl
  | more _ h' => exact ((cut_E hm ha _ _).1 h').2.2 rfl
/-- an edge closes a graph without a way round just if its end reaches its beginning. -/
theorem put_closes {m : Gr} {a b : Nat} (ha : a < 32) (hb : b < 32) (hab : a ≠ b) (hf : free m = true) : free (put m a b) = !Sm.has (ways (E m) b) (a : Int) := by
  rw [Sm.has_nat _ (ways_lt _ _)]
  rw [free_iff] at hf
  cases hw : (ways (E m) b).testBit a
  · rw [Bool.not_false, free_iff]
    intro i h
    rcases put_way ha hb h with h1 | ⟨h1, h2⟩
    · exact hf i h1
    · have hn : ¬ W (E m) b a := fun h3 => by
        rw [(ways_test _ _ _).2 ⟨ha, h3⟩] at hw; cases hw
      rcases h1 with rfl | h1
      · rcases h2 with rfl | h2
        · exact hab rfl
        · exact hn h2
      · rcases h2 with rfl | h2
        · exact hn h1
        · exact hn (h2.trans h1)
  · rw [Bool.not_true, free_not]
    have := ((ways_test _ _ _).1 hw).2
    exact ⟨b, .more (put_up ha hb this) ((put_E ha hb _ _).2 (.inr ⟨rfl, rfl⟩))⟩
theorem put_still {m : Gr} {a b : Nat} (ha : a < 32) (hb : b < 32) (hf : free m = false) : free (put m a b) = false := by
  rw [free_not] at hf ⊢
  obtain ⟨i, h⟩ := hf
  exact ⟨i, put_up ha hb h⟩
/-- the other way. -/
theorem flip_way (m : Gr) (i j : Nat) : W (fun a b => E m b a) i j ↔ W (E m) j i :=
  ⟨fun h => h.flip, fun h => h.flip⟩
end Go.Proofs.Ytaonepbongbhoaa.Mm
namespace Go.Proofs.Ytaonepbongbhoaa
open Ieee
namespace Fl
/-- as many of the least units as there are in one. -/
def E : Nat := 1074
theorem S_ex : ∃ s : Nat, s = 2 ^ E := ⟨_, rfl⟩
noncomputable def S : Nat := Classical.choose S_ex
theorem S_eq : S = 2 ^ E := Classical.choose_spec S_ex
theorem S_pos : 0 < S := by rw [S_eq]; exact Nat.two_pow_pos _
def never : Nat := 9007199254740992
/-- a sign put to a natural number. -/
def sg (s : Bool) (n : Nat) : Int := if s then -(n : Int) else (n : Int)
theorem signed_eq (s : Bool) (m u : Nat) : signed s m u = sg s (m * 2 ^ u) := by
  unfold signed sg; simp only [Nat.shiftLeft_eq]
theorem sg_mul (s : Bool) (m k : Nat) : sg s (m * k) = sg s m * (k : Int) := by
  unfold sg; cases s <;> simp [Int.neg_mul]
/-- x is a number of this sign, and of so many least units. -/
def Num (x : Nat) (s : Bool) (A : Nat) : Prop := ∃ m p, double.read x = .number s m p ∧ -1074 ≤ p ∧ A = m * 2 ^ (p + 1074).toNat
theorem least : double.leastPlace = -1074 := by decide
theorem bin : double.binade = 4503599627370496 := by decide
theorem sw : double.signWeight = 9223372036854775808 := by decide
theorem ir : double.infRung = 9218868437227405312 := by decide
theorem cases_ (x : Nat) : (∃ s t, double.read x = .nan s t) ∨ (∃ s, double.read x = .infinity s) ∨ ∃ s A, Num x s A := by
  have h : ∀ d, double.read x = d → (∃ s t, d = .nan s t) ∨ (∃ s, d = .infinity s) ∨ ∃ s m p, d = .number s m p ∧ -1074 ≤ p := by
    intro d hd
    unfold Format.read at hd
    dsimp only at hd
    split at hd
    · exact .inr (.inr ⟨_, _, _, hd.symm, by rw [least]; exact Int.le_refl _⟩)
    · split at hd
      · exact .inr (.inr ⟨_, _, _, hd.symm, by rw [least]; omega⟩)
      · split at hd
        · exact .inr (.inl ⟨_, hd.symm⟩)
        · exact .inl ⟨_, _, hd.symm⟩
  rcases h _ rfl with ⟨s, t, h⟩ | ⟨s, h⟩ | ⟨s, m, p, h, hp⟩
  · exact .inl ⟨s, t, h⟩
  · exact .inr (.inl ⟨s, h⟩)
  · exact .inr (.inr ⟨s, _, m, p, h, hp, rfl⟩)
theorem compare_mul (a b : Int) (k : Nat) (hk : 0 < k) : compare (a * (k : Int)) (b * (k : Int)) = compare a b := by
  have hk' : (0 : Int) < (k : Int) := by omega
  rcases Int.lt_trichotomy a b with h | h | h
  · rw [Int.compare_eq_lt.2 h, Int.compare_eq_lt.2 (Int.mul_lt_mul_of_pos_right h hk')]
  · subst h; rw [Int.compare_eq_eq.2 rfl, Int.compare_eq_eq.2 rfl]
  · rw [Int.compare_eq_gt.2 h, Int.compare_eq_gt.2 (Int.mul_lt_mul_of_pos_right h hk')]
theorem order_num {x y A B : Nat} {s t : Bool} (hx : Num x s A) (hy : Num y t B) : double.order x y = some (compare (sg s A) (sg t B)) := by
  obtain ⟨m, i, hx, hi, rfl⟩ := hx
  obtain ⟨n, j, hy, hj, rfl⟩ := hy
  unfold Format.order
  rw [hx, hy]
  show some (compare (signed s m (i - min i j).toNat) (signed t n (j - min i j).toNat)) = _
  rw [signed_eq, signed_eq]
  have e1 : (i + 1074).toNat = (i - min i j).toNat + (min i j + 1074).toNat := by omega
  have e2 : (j + 1074).toNat = (j - min i j).toNat + (min i j + 1074).toNat := by omega
  rw [e1, e2, Nat.pow_add, Nat.pow_add, ← Nat.mul_assoc, ← Nat.mul_assoc, sg_mul s _ (2 ^ (min i j + 1074).toNat), sg_mul t _ (2 ^ (min i j + 1074).toNat), compare_mul _ _ _ (Nat.two_pow_pos _)]
theorem cut_zero (s : Bool) (n d : Nat) : Toward.zero.cut s n d = n / 2 ^ d := by
  show n / (1 <<< min d (n.log2 + 2)) + 0 = _
  rw [Nat.shiftLeft_eq, Nat.one_mul, Nat.add_zero]
  rcases Nat.lt_or_ge (n.log2 + 2) d with h | h
  · rw [Nat.min_eq_right (by omega)]
    have hn : n < 2 ^ (n.log2 + 1) := Nat.lt_log2_self
    have h1 : n < 2 ^ (n.log2 + 2) := Nat.lt_trans hn (Nat.pow_lt_pow_right (by decide) (by omega))
    have h2 : n < 2 ^ d := Nat.lt_trans hn (Nat.pow_lt_pow_right (by decide) (by omega))
    rw [Nat.div_eq_of_lt h1, Nat.div_eq_of_lt h2]
  · rw [Nat.min_eq_left h]
theorem quot (m : Nat) (p : Int) (hp : -1074 ≤ p) : (m <<< p.toNat) / 2 ^ (-p).toNat = m * 2 ^ (p + 1074).toNat / S := by
  rw [Nat.shiftLeft_eq, S_eq]
  rcases Decidable.em (p < 0) with h | h
  · have e0 : p.toNat = 0 := by omega
    have e1 : E = (-p).toNat + (p + 1074).toNat := by unfold E; omega
    conv => rhs; rhs; rw [e1]
    rw [e0, Nat.pow_zero, Nat.mul_one, Nat.pow_add, Nat.mul_div_mul_right _ _ (Nat.two_pow_pos _)]
  · have e0 : (-p).toNat = 0 := by omega
    have e1 : (p + 1074).toNat = p.toNat + E := by unfold E; omega
    rw [e0, e1, Nat.pow_zero, Nat.div_one, Nat.pow_add, ← Nat.mul_assoc, Nat.mul_div_cancel _ (Nat.two_pow_pos _)]
theorem toInt_num {x A : Nat} {s : Bool} (hx : Num x s A) : (double.read x).toInt .zero = some (sg s (A / S)) := by
  obtain ⟨m, p, hx, hp, rfl⟩ := hx
  rw [hx]
  show some (signed s (Toward.zero.cut s (m <<< p.toNat) (-p).toNat) 0) = _
  rw [signed_eq, cut_zero, quot m p hp, Nat.pow_zero, Nat.mul_one]
/-- the word cut towards zero. -/
def trunc (x : Nat) : Nat := double.write ((double.read x).integral .zero)
theorem trunc_num {x A : Nat} {s : Bool} (hx : Num x s A) : trunc x = double.nearest s (A / S) 0 := by
  obtain ⟨m, p, hx, hp, rfl⟩ := hx
  unfold trunc
  rw [hx]
  show double.nearest s (Toward.zero.cut s (m <<< p.toNat) (-p).toNat) 0 = _
  rw [cut_zero, quot m p hp]
theorem read_word (s : Bool) (N k : Nat) (h0 : 4503599627370496 ≤ N) (h1 : N < 9007199254740992) (hk : k ≤ 2045) : double.read (double.word s (k * 4503599627370496 + N)) = .number s N ((k : Int) - 1074) := by
  have e : ∀ W : Nat, W = double.word s (k * 4503599627370496 + N) → W / 9223372036854775808 % 2 = s.toNat ∧ W % 9223372036854775808 = k * 4503599627370496 + N := by
    intro W hW
    unfold Format.word at hW
    rw [sw] at hW
    cases s <;> simp at hW <;> subst hW <;> constructor <;> simp <;> omega
  obtain ⟨e1, e2⟩ := e _ rfl
  unfold Format.read
  rw [sw, bin, ir, least]
  dsimp only
  rw [e1, e2]
  rw [if_neg (by omega), if_pos (by omega)]
  have a1 : (s.toNat == 1) = s := by cases s <;> rfl
  have a2 : 4503599627370496 + (k * 4503599627370496 + N) % 4503599627370496 = N := by omega
  have a3 : (k * 4503599627370496 + N) / 4503599627370496 - 1 = k := by omega
  rw [a1, a2, a3]
  congr 1
  all_goals omega
theorem cut_none (s : Bool) (n : Nat) : Toward.even.cut s n 0 = n := by
  unfold Toward.cut
  simp [Nat.mod_one]
theorem nearest_num (s : Bool) (n : Nat) (h : n ≤ 9007199254740992) : Num (double.nearest s n 0) s (n * S) := by
  rcases Nat.eq_zero_or_pos n with rfl | h0
  · cases s
    · exact ⟨0, -1074, by decide +kernel, by decide, by simp⟩
    · exact ⟨0, -1074, by decide +kernel, by decide, by simp⟩
  · rcases Nat.lt_or_ge n 9007199254740992 with hl | hg
    · have hL : n.log2 ≤ 52 := by
        have : n.log2 < 53 := (Nat.log2_lt (by omega)).2 (by simpa using hl)
        omega
      have h1 : n * 2 ^ (52 - n.log2) < 9007199254740992 := by
        have a : n < 2 ^ (n.log2 + 1) := Nat.lt_log2_self
        have b : n * 2 ^ (52 - n.log2) < 2 ^ (n.log2 + 1) * 2 ^ (52 - n.log2) := Nat.mul_lt_mul_of_pos_right a (Nat.two_pow_pos _)
        rw [← Nat.pow_add, show n.log2 + 1 + (52 - n.log2) = 53 by omega] at b
        simpa using b
      have h2 : 4503599627370496 ≤ n * 2 ^ (52 - n.log2) := by
        have a : 2 ^ n.log2 ≤ n := Nat.log2_self_le (by omega)
        have b : 2 ^ n.log2 * 2 ^ (52 - n.log2) ≤ n * 2 ^ (52 - n.log2) := Nat.mul_le_mul_right _ a
        rw [← Nat.pow_add, show n.log2 + (52 - n.log2) = 52 by omega] at b
        simpa using b
      have e : double.nearest s n 0 = double.word s ((n.log2 + 1022) * 4503599627370496 + n * 2 ^ (52 - n.log2)) := by
        unfold Format.nearest
        rw [if_neg (by omega), least, bin, ir]
        have hf : ((double.fractionBits : Nat) : Int) = 52 := rfl
        rw [hf]
        dsimp only
        have c1 : max ((0 : Int) + n.log2 - 52) (-1074) = (n.log2 : Int) - 52 := by omega
        rw [c1]
        have c2 : (0 - ((n.log2 : Int) - 52)).toNat = 52 - n.log2 := by omega
        have c3 : ((n.log2 : Int) - 52 - 0).toNat = 0 := by omega
        have c4 : ((n.log2 : Int) - 52 - -1074).toNat = n.log2 + 1022 := by omega
        rw [c2, c3, c4, cut_none, Nat.shiftLeft_eq, Nat.min_eq_left (by omega)]
      rw [e]
      refine ⟨_, _, read_word s _ _ h2 h1 (by omega), by omega, ?_⟩
      have e2 : (((n.log2 + 1022 : Nat) : Int) - 1074 + 1074).toNat = n.log2 + 1022 := by omega
      have e3 : 52 - n.log2 + (n.log2 + 1022) = E := by unfold E; omega
      rw [e2, Nat.mul_assoc, ← Nat.pow_add, e3, S_eq]
    · obtain rfl : n = 9007199254740992 := by omega
      have e : double.nearest s 9007199254740992 0 = double.word s (1075 * 4503599627370496 + 4503599627370496) := by cases s <;> decide +kernel
      rw [e]
      refine ⟨_, _, read_word s _ _ (by decide) (by decide) (by decide), by decide, ?_⟩
      rw [S_eq]
      have e2 : (((1075 : Nat) : Int) - 1074 + 1074).toNat = E + 1 := by unfold E; omega
      rw [e2, Nat.pow_succ]
      generalize 2 ^ E = z
      omega
end Fl
end Go.Proofs.Ytaonepbongbhoaa
namespace Go.Proofs.Ytaonepbongbhoaa
open Ieee
namespace Fl
/-- x is the whole number n, from 0 to Never. -/
def Part (x n : Nat) : Prop := n ≤ never ∧ ∃ s, Num x s (n * S) ∧ (s = true → n = 0)
theorem Part.sg {x n : Nat} (h : Part x n) : ∃ s, Num x s (n * S) ∧ Fl.sg s (n * S) = (n : Int) * (S : Int) := by
  obtain ⟨_, s, h, hs⟩ := h
  refine ⟨s, h, ?_⟩
  cases s
  · show ((n * S : Nat) : Int) = _; simp
  · rw [hs rfl]; show -((0 * S : Nat) : Int) = _; simp
theorem order_part {x y a b : Nat} (hx : Part x a) (hy : Part y b) : double.order x y = some (compare (a : Int) (b : Int)) := by
  obtain ⟨s, h1, e1⟩ := hx.sg
  obtain ⟨t, h2, e2⟩ := hy.sg
  rw [order_num h1 h2, e1, e2, compare_mul _ _ _ S_pos]
theorem part_of (n : Nat) (h : n ≤ never) : Part (double.nearest false n 0) n := ⟨h, false, nearest_num false n h, fun e => by cases e⟩
theorem part_zero : Part 0 0 := part_of 0 (by decide)
theorem part_never : Part 4845873199050653696 never := by
  have h := part_of never (by decide)
  rwa [show double.nearest false never 0 = 4845873199050653696 by decide +kernel] at h
theorem Part.uniq {x a b : Nat} (h : Part x a) (k : Part x b) : a = b := by
  have h1 := order_part h k
  have h2 := order_part h h
  rw [h1] at h2
  injection h2 with h2
  have e : compare (a : Int) (a : Int) = .eq := Int.compare_eq_eq.2 rfl
  rw [e] at h2
  have := Int.compare_eq_eq.1 h2
  omega
noncomputable def prt (x : Nat) : Option Nat := open Classical in if h : ∃ n, Part x n then some (Classical.choose h) else none
theorem part_iff {x n : Nat} : prt x = some n ↔ Part x n := by
  unfold prt
  split
  · rename_i h
    have := Classical.choose_spec h
    constructor
    · intro e; injection e with e; rwa [e] at this
    · intro k; rw [this.uniq k]
  · rename_i h
    constructor
    · intro e; cases e
    · intro k; exact absurd ⟨n, k⟩ h
theorem part_none {x : Nat} : prt x = none ↔ ∀ n, ¬ Part x n := by
  constructor
  · intro h n k
    rw [part_iff.2 k] at h
    cases h
  · intro h
    cases e : prt x with
    | none => rfl
    | some n => exact absurd (part_iff.1 e) (h n)
/- how the program looks at a word -/
abbrev ord (x y : Nat) : Option Ordering := FloatKind.f64.format.order x y
theorem ord_eq (x y : Nat) : ord x y = double.order x y := rfl
def ge0 (x : Nat) : Bool := ord x 0 == some .gt || ord x 0 == some .eq
def leN (x : Nat) : Bool := ord x 4845873199050653696 == some .lt || ord x 4845873199050653696 == some .eq
def isT (x : Nat) : Bool := ord x (trunc x) == some .eq
theorem zero_num : Num 0 false 0 := by
  have := nearest_num false 0 (by decide)
  rwa [show double.nearest false 0 0 = 0 by decide +kernel, Nat.zero_mul] at this
theorem never_num : Num 4845873199050653696 false (never * S) := by
  have := nearest_num false never (by decide)
  rwa [show double.nearest false never 0 = 4845873199050653696 by decide +kernel] at this
theorem ge0_num {x A : Nat} {s : Bool} (h : Num x s A) : ge0 x = true ↔ (s = true → A = 0) := by
  unfold ge0
  rw [ord_eq, order_num h zero_num]
  cases s
  · rcases Nat.eq_zero_or_pos A with rfl | hp
    · simp [Fl.sg]
    · have : compare (Fl.sg false A) (Fl.sg false 0) = .gt := Int.compare_eq_gt.2 (by simp [Fl.sg]; omega)
      rw [this]; simp
  · rcases Nat.eq_zero_or_pos A with rfl | hp
    · simp [Fl.sg]
    · have : compare (Fl.sg true A) (Fl.sg false 0) = .lt := Int.compare_eq_lt.2 (by simp [Fl.sg]; omega)
      rw [this]; simp; omega
theorem leN_num {x A : Nat} {s : Bool} (h : Num x s A) (hs : s = true → A = 0) : leN x = true ↔ A ≤ never * S := by
  have e : Fl.sg s A = (A : Int) := by
    cases s
    · rfl
    · rw [hs rfl]; rfl
  unfold leN
  rw [ord_eq, order_num h never_num, e, show Fl.sg false (never * S) = ((never * S : Nat) : Int) from rfl]
  generalize never * S = B
  rcases Nat.lt_trichotomy A B with hl | hl | hl
  · rw [Int.compare_eq_lt.2 (by omega)]; simp; omega
  · rw [Int.compare_eq_eq.2 (by omega)]; simp; omega
  · rw [Int.compare_eq_gt.2 (by omega)]; simp; omega
theorem same_sign (s : Bool) (A B : Nat) : (some (compare (Fl.sg s A) (Fl.sg s B)) == some Ordering.eq) = true ↔ A = B := by
  cases s
  · change (some (compare (A : Int) (B : Int)) == some Ordering.eq) = true ↔ A = B
    rcases Nat.lt_trichotomy A B with hl | hl | hl
    · rw [Int.compare_eq_lt.2 (show (A : Int) < (B : Int) by omega)]; simp; omega
    · rw [Int.compare_eq_eq.2 (show (A : Int) = (B : Int) by omega)]; simp; omega
    · rw [Int.compare_eq_gt.2 (show (B : Int) < (A : Int) by omega)]; simp; omega
  · change (some (compare (-(A : Int)) (-(B : Int))) == some Ordering.eq) = true ↔ A = B
    rcases Nat.lt_trichotomy A B with hl | hl | hl
    · rw [Int.compare_eq_gt.2 (show -(B : Int) < -(A : Int) by omega)]; simp; omega
    · rw [Int.compare_eq_eq.2 (show -(A : Int) = -(B : Int) by omega)]; simp; omega
    · rw [Int.compare_eq_lt.2 (show -(A : Int) < -(B : Int) by omega)]; simp; omega
theorem isT_num {x A : Nat} {s : Bool} (h : Num x s A) (hA : A ≤ never * S) : isT x = true ↔ A = A / S * S := by
  have hq : A / S ≤ never := (Nat.div_le_iff_le_mul_add_pred S_pos).2 (by rw [Nat.mul_comm]; omega)
  unfold isT
  rw [ord_eq, trunc_num h, order_num h (nearest_num s _ hq)]
  clear h hA hq
  exact same_sign s A (A / S * S)
theorem num_of_ge0 {x : Nat} (h0 : ge0 x = true) (h1 : leN x = true) : ∃ s A, Num x s A := by
  rcases cases_ x with ⟨s, t, h⟩ | ⟨s, h⟩ | h
  · unfold ge0 at h0
    rw [ord_eq, Format.order, h] at h0
    simp [Datum.order] at h0
  · obtain ⟨m, p, hz, _, _⟩ := zero_num
    obtain ⟨m2, p2, hn, _, _⟩ := never_num
    unfold ge0 at h0
    unfold leN at h1
    rw [ord_eq, Format.order, h, hz] at h0
    rw [ord_eq, Format.order, h, hn] at h1
    cases s <;> simp [Datum.order] at h0 h1
  · exact h
theorem whole_iff (x : Nat) : (prt x).isSome = true ↔ ge0 x = true ∧ leN x = true ∧ isT x = true := by
  constructor
  · intro h
    obtain ⟨n, hn⟩ := Option.isSome_iff_exists.1 h
    obtain ⟨hl, s, hN, hs⟩ := part_iff.1 hn
    have hs' : s = true → n * S = 0 := fun e => by rw [hs e, Nat.zero_mul]
    have hb : n * S ≤ never * S := Nat.mul_le_mul_right _ hl
    exact ⟨(ge0_num hN).2 hs', (leN_num hN hs').2 hb, (isT_num hN hb).2 (by rw [Nat.mul_div_cancel _ S_pos])⟩
  · rintro ⟨h0, h1, h2⟩
    obtain ⟨s, A, hN⟩ := num_of_ge0 h0 h1
    have hs := (ge0_num hN).1 h0
    have hb := (leN_num hN hs).1 h1
    have ht := (isT_num hN hb).1 h2
    have hq : A / S ≤ never := (Nat.div_le_iff_le_mul_add_pred S_pos).2 (by rw [Nat.mul_comm]; omega)
    have : Part x (A / S) := ⟨hq, s, by rw [← ht]; exact hN, fun e => by rw [hs e, Nat.zero_div]⟩
    rw [part_iff.2 this]; rfl
theorem not_nan {x : Nat} (h : ge0 x = true) : ∀ s t, double.read x ≠ .nan s t := by
  intro s t e
  unfold ge0 at h
  rw [ord_eq, Format.order, e] at h
  simp [Datum.order] at h
theorem toInt_part {x n : Nat} (h : Part x n) : floatToIntVal .f64 x .i64 = some (n : Int) := by
  obtain ⟨hl, s, hN, hs⟩ := h
  have e : (FloatKind.f64.decode x).toInt .zero = some (n : Int) := by
    show (double.read x).toInt .zero = _
    rw [toInt_num hN, Nat.mul_div_cancel _ S_pos]
    cases s
    · rfl
    · rw [hs rfl]; rfl
  unfold floatToIntVal
  rw [e]
  unfold never at hl
  have a : IntKind.i64.min ≤ (n : Int) ∧ (n : Int) ≤ IntKind.i64.max := by
    have e1 : IntKind.i64.min = -9223372036854775808 := by decide
    have e2 : IntKind.i64.max = 9223372036854775807 := by decide
    omega
  dsimp only
  rw [if_pos a]
theorem ord_lt {x y a b : Nat} (hx : prt x = some a) (hy : prt y = some b) : (ord x y == some .lt) = decide (a < b) := by
  rw [ord_eq, order_part (part_iff.1 hx) (part_iff.1 hy)]
  rcases Nat.lt_trichotomy a b with h | h | h
  · rw [Int.compare_eq_lt.2 (by omega)]; simp [h]
  · rw [Int.compare_eq_eq.2 (by omega)]; simp [h]
  · rw [Int.compare_eq_gt.2 (by omega)]; simp; omega
theorem ord_same {x y a b : Nat} (hx : prt x = some a) (hy : prt y = some b) : (ord x y == some .eq) = decide (a = b) := by
  rw [ord_eq, order_part (part_iff.1 hx) (part_iff.1 hy)]
  rcases Nat.lt_trichotomy a b with h | h | h
  · rw [Int.compare_eq_lt.2 (by omega)]; simp; omega
  · rw [Int.compare_eq_eq.2 (by omega)]; simp [h]
  · rw [Int.compare_eq_gt.2 (by omega)]; simp; omega
theorem ord_le {x y a b : Nat} (hx : prt x = some a) (hy : prt y = some b) : (ord x y == some .lt || ord x y == some .eq) = decide (a ≤ b) := by
  rw [ord_lt hx hy, ord_same hx hy, Bool.eq_iff_iff]
  simp; omega
/- spans -/
abbrev Sp := Option (Nat × Nat)
noncomputable def spn (re im : Nat) : Sp :=
  match prt re, prt im with
  | some b, some e => if b ≤ e then some (b, e) else none
  | _, _ => none
def Good (o : Sp) : Prop := ∀ b e, o = some (b, e) → b ≤ e ∧ e ≤ never
theorem spn_some {re im b e : Nat} : spn re im = some (b, e) ↔ prt re = some b ∧ prt im = some e ∧ b ≤ e := by
  unfold spn
  cases h1 : prt re with
  | none => simp
  | some b' =>
    cases h2 : prt im with
    | none => simp
    | some e' =>
      by_cases h : b' ≤ e'
      · simp [h]; rintro rfl rfl; exact h
      · simp [h]; rintro rfl rfl; omega
theorem spn_good (re im : Nat) : Good (spn re im) := by
  intro b e h
  obtain ⟨_, h2, h3⟩ := spn_some.1 h
  exact ⟨h3, (part_iff.1 h2).1⟩
def mk (b e : Int) : Sp := if 0 ≤ b ∧ b ≤ e ∧ e ≤ 9007199254740992 then some (b.toNat, e.toNat) else none
theorem mk_good (b e : Int) : Good (mk b e) := by
  intro b' e' h
  unfold mk at h
  split at h
  · simp at h; unfold never; omega
  · cases h
theorem mk_nat {b e : Nat} (h1 : b ≤ e) (h2 : e ≤ never) : mk b e = some (b, e) := by
  unfold mk never at *
  rw [if_pos (by omega)]; simp
def re_ (o : Sp) : Nat := match o with | some (b, _) => double.nearest false b 0 | none => 0
def im_ (o : Sp) : Nat := match o with | some (_, e) => double.nearest false e 0 | none => 0
theorem part_nat {n : Nat} (h : n ≤ never) : prt (double.nearest false n 0) = some n := part_iff.2 (part_of n h)
theorem part_nought : prt 0 = some 0 := part_iff.2 part_zero
theorem spn_of {o : Sp} (h : Good o) : spn (re_ o) (im_ o) = some (o.getD (0, 0)) := by
  cases o with
  | none => exact spn_some.2 ⟨part_nought, part_nought, Nat.le_refl _⟩
  | some p =>
    obtain ⟨b, e⟩ := p
    obtain ⟨h1, h2⟩ := h b e rfl
    exact spn_some.2 ⟨part_nat (Nat.le_trans h1 h2), part_nat h2, h1⟩
theorem part_re {o : Sp} (h : Good o) : prt (re_ o) = some (o.getD (0, 0)).1 := (spn_some.1 (spn_of h)).1
theorem part_im {o : Sp} (h : Good o) : prt (im_ o) = some (o.getD (0, 0)).2 := (spn_some.1 (spn_of h)).2.1
def bg (o : Sp) : Nat := (o.getD (0, 0)).1
def en (o : Sp) : Nat := (o.getD (0, 0)).2
def bf (s t : Sp) : Bool := s.isSome && t.isSome && decide (en s < bg t)
def mts (s t : Sp) : Bool := s.isSome && t.isSome && !bf s t && !bf t s
def jn (s t : Sp) : Sp := if s.isSome && t.isSome then some (min (bg s) (bg t), max (en s) (en t)) else none
def mv (s : Sp) (k : Int) : Sp := if s.isSome && decide (-9007199254740992 ≤ k) && decide (k ≤ 9007199254740992) then mk (bg s + k) (if en s = never then never else en s + k) else none
theorem jn_good {s t : Sp} (hs : Good s) (ht : Good t) : Good (jn s t) := by
  intro b e h
  unfold jn at h
  cases s with
  | none => simp at h
  | some p =>
    cases t with
    | none => simp at h
    | some q =>
      have h1 := hs p.1 p.2 rfl
      have h2 := ht q.1 q.2 rfl
      simp [bg, en] at h
      omega
theorem mv_good (s : Sp) (k : Int) : Good (mv s k) := by
  unfold mv
  split
  · exact mk_good _ _
  · intro b e h; cases h
theorem floatOfInt_nat (n : Int) (h : 0 ≤ n) : floatOfInt .f64 n = double.nearest false n.toNat 0 := by
  show double.nearest (decide (n < 0)) n.natAbs 0 = _
  rw [decide_eq_false (by omega), show n.natAbs = n.toNat by omega]
end Fl
end Go.Proofs.Ytaonepbongbhoaa
namespace Go.Proofs.Ytaonepbongbhoaa.Tx
def i64p (n : Int) : Prop := -9223372036854775808 ≤ n ∧ n ≤ 9223372036854775807
/-- a step: its variable, its value (kind, number), whether it is a Write. -/
structure Sp where
  x : Int
  k : Int
  n : Int
  wr : Bool
def Sp.ok (v : Sp) : Prop := i64p v.x ∧ i64p v.k ∧ i64p v.n
def right (k n : Int) : Bool := if k = 0 then decide (n = 0) else if k = 1 then true else if k = 2 then decide (0 ≤ n) && decide (n < 64) else false
def zero : Sp := ⟨0, 0, 0, false⟩
theorem zero_ok : zero.ok := by refine ⟨⟨?_, ?_⟩, ⟨?_, ?_⟩, ⟨?_, ?_⟩⟩ <;> decide
/-- what add answers, and the row that comes of it. -/
def addE (L : List Sp) (s : Sp) : Int := if 0 ≤ s.x ∧ s.x < 64 ∧ right s.k s.n = true then (if 200 ≤ L.length then 4 else 0) else 2
def addL (L : List Sp) (s : Sp) : List Sp := if addE L s = 0 then L ++ [s] else L
/-- what Back leaves. -/
def backL (L : List Sp) (k : Nat) : List Sp := L.take k ++ (L.drop k).filter (fun s => !s.wr)
/-- the last Write of a variable, the first step of it that is none, the first step. -/
def wr1 (L : List Sp) (x : Int) : Option Sp := L.reverse.find? (fun s => decide (s.x = x) && s.wr)
def rd1 (L : List Sp) (x : Int) : Option Sp := L.find? (fun s => decide (s.x = x) && !s.wr)
def first (L : List Sp) (x : Int) : Option Sp := L.find? (fun s => decide (s.x = x))
/-- the step whose value is looked up. -/
def look (L : List Sp) (x : Int) : Option Sp := (wr1 L x).or (first L x)
/-- of the variables in order. -/
def rise (f : Int → Option Sp) (k : Nat) : List Sp := (List.range k).filterMap (fun x => f (x : Nat))
def writesL (L : List Sp) : List Sp := rise (wr1 L) 64
def readsL (L : List Sp) : List Sp := rise (rd1 L) 64
theorem take_step {α : Type} {l : List α} {k : Nat} {z : α} (h : l[k]? = some z) : l.take (k + 1) = l.take k ++ [z] := by
  obtain ⟨hl, rfl⟩ := List.getElem?_eq_some_iff.1 h
  exact List.take_succ_eq_append_getElem hl
theorem rise_succ_some {f : Int → Option Sp} {k : Nat} {s : Sp} (h : f (k : Nat) = some s) : rise f (k + 1) = rise f k ++ [s] := by
  simp [rise, List.range_succ, List.filterMap_append, h]
theorem rise_succ_none {f : Int → Option Sp} {k : Nat} (h : f (k : Nat) = none) : rise f (k + 1) = rise f k := by
  simp [rise, List.range_succ, List.filterMap_append, h]
theorem rise_len (f : Int → Option Sp) (k : Nat) : (rise f k).length ≤ k := by
  induction k with
  | zero => simp [rise]
  | succ k ih =>
    cases h : f (k : Nat) with
    | none => rw [rise_succ_none h]; omega
    | some s => rw [rise_succ_some h, List.length_append]; simp; omega
theorem rise_congr {f g : Int → Option Sp} {k : Nat} (h : ∀ x : Nat, x < k → f (x : Nat) = g (x : Nat)) : rise f k = rise g k := by
  induction k with
  | zero => rfl
  | succ k ih =>
    have ih := ih fun x hx => h x (by omega)
    have hk := h k (by omega)
    cases e : f (k : Nat) with
    | none => rw [rise_succ_none e, rise_succ_none (hk.symm.trans e), ih]
    | some s => rw [rise_succ_some e, rise_succ_some (hk.symm.trans e), ih]
theorem mem_rise {f : Int → Option Sp} {k : Nat} {s : Sp} (h : s ∈ rise f k) : ∃ x : Nat, x < k ∧ f (x : Nat) = some s := by
  unfold rise at h
  obtain ⟨x, hx, e⟩ := List.mem_filterMap.1 h
  exact ⟨x, by simpa using hx, e⟩
theorem wr1_some {L : List Sp} {x : Int} {s : Sp} (h : wr1 L x = some s) : s ∈ L ∧ s.x = x ∧ s.wr = true := by
  have h1 := List.find?_some h
  have h2 := List.mem_of_find?_eq_some h
  simp at h1 h2
  exact ⟨h2, h1.1, h1.2⟩
theorem rd1_some {L : List Sp} {x : Int} {s : Sp} (h : rd1 L x = some s) : s ∈ L ∧ s.x = x ∧ s.wr = false := by
  have h1 := List.find?_some h
  have h2 := List.mem_of_find?_eq_some h
  simp at h1
  exact ⟨h2, h1.1, h1.2⟩
theorem first_some {L : List Sp} {x : Int} {s : Sp} (h : first L x = some s) : s ∈ L ∧ s.x = x := by
  have h1 := List.find?_some h
  have h2 := List.mem_of_find?_eq_some h
  simp at h1
  exact ⟨h2, h1⟩
theorem wr1_append (L M : List Sp) (x : Int) : wr1 (L ++ M) x = (wr1 M x).or (wr1 L x) := by simp [wr1, List.reverse_append, List.find?_append]
theorem rd1_append (L M : List Sp) (x : Int) : rd1 (L ++ M) x = (rd1 L x).or (rd1 M x) := by simp [rd1, List.find?_append]
theorem first_append (L M : List Sp) (x : Int) : first (L ++ M) x = (first L x).or (first M x) := by simp [first, List.find?_append]
theorem addL_len (L : List Sp) (s : Sp) : (addL L s).length ≤ L.length + 1 := by unfold addL; split <;> simp
theorem backL_len (L : List Sp) (k : Nat) : (backL L k).length ≤ L.length := by
  unfold backL
  have h1 := List.length_filter_le (fun s : Sp => !s.wr) (L.drop k)
  simp at h1 ⊢
  omega
theorem mem_backL {L : List Sp} {k : Nat} {s : Sp} (h : s ∈ backL L k) : s ∈ L := by
  rcases List.mem_append.1 h with h | h
  · exact List.mem_of_mem_take h
  · exact List.mem_of_mem_drop (List.mem_filter.1 h).1
theorem backL_all {L : List Sp} {k : Nat} (h : L.length ≤ k) : backL L k = L := by
  unfold backL; rw [List.take_of_length_le h, List.drop_of_length_le h]; simp
theorem find_filter {α : Type} {p q : α → Bool} (h : ∀ a, p a = true → q a = true) (l : List α) : (l.filter q).find? p = l.find? p := by
  induction l with
  | nil => rfl
  | cons a l ih =>
    by_cases hq : q a = true
    · rw [List.filter_cons_of_pos hq, List.find?_cons, List.find?_cons, ih]
    · rw [List.filter_cons_of_neg hq, ih, List.find?_cons]
      have : p a = false := by cases e : p a with | true => exact absurd (h a e) hq | false => rfl
      rw [this]
theorem wr1_filter (L : List Sp) (x : Int) : wr1 (L.filter (fun s => !s.wr)) x = none := by
  unfold wr1
  rw [List.find?_eq_none]
  intro s hs
  have := (List.mem_filter.1 (List.mem_reverse.1 hs)).2
  simp at this
  simp [this]
theorem rd1_filter (L : List Sp) (x : Int) : rd1 (L.filter (fun s => !s.wr)) x = rd1 L x :=
  find_filter (fun s h => by simp at h ⊢; exact h.2) L
/-- behind a Back the Writes are what they were, and all that was read is there. -/
theorem wr1_back (L : List Sp) (k : Nat) (x : Int) : wr1 (backL L k) x = wr1 (L.take k) x := by
  unfold backL
  rw [wr1_append, wr1_filter]; rfl
theorem rd1_back (L : List Sp) (k : Nat) (x : Int) : rd1 (backL L k) x = rd1 L x := by
  unfold backL
  rw [rd1_append, rd1_filter, ← rd1_append, List.take_append_drop]
theorem writes_back (L : List Sp) (k : Nat) : writesL (backL L k) = writesL (L.take k) := rise_congr fun x _ => wr1_back L k x
theorem reads_back (L : List Sp) (k : Nat) : readsL (backL L k) = readsL L := rise_congr fun x _ => rd1_back L k x
theorem writes_none (L : List Sp) : writesL (backL L 0) = [] := by
  rw [writes_back]
  rfl
theorem back_back {L : List Sp} {k : Nat} (h : k ≤ L.length) : backL (backL L k) k = backL L k := by
  have hl : (L.take k).length = k := by simp; omega
  have e1 : (backL L k).take k = L.take k := by
    unfold backL; rw [List.take_append_of_le_length (by omega), List.take_take, Nat.min_self]
  have e2 : (backL L k).drop k = (L.drop k).filter (fun s => !s.wr) := by
    unfold backL; rw [List.drop_append_of_le_length (by omega), List.drop_of_length_le (by omega)]; rfl
  show (backL L k).take k ++ ((backL L k).drop k).filter (fun s => !s.wr) = _
  rw [e1, e2, List.filter_filter]
  simp [backL]
end Go.Proofs.Ytaonepbongbhoaa.Tx
namespace Go.Proofs.Ytaonepbongbhoaa.Rp
open Tx
abbrev Vp := Int × Int
/-- a transaction as it went: its number, whether it was committed, is over, its reads and writes. -/
structure Ent where
  id : Int
  com : Bool
  ovr : Bool
  rd : List Sp
  wt : List Sp
/-- what a variable has, if there is one. -/
def at_ (S : List Vp) (x : Int) : Option Vp := if 0 ≤ x then S[x.toNat]? else none
def has (S : List Vp) (x : Int) : Bool := decide (0 ≤ x) && decide (x < (S.length : Int))
/-- a step that cannot have been read, or not be written. -/
def lacks (S : List Vp) (s : Sp) : Bool := !has S s.x
def denies (S : List Vp) (s : Sp) : Bool := lacks S s || decide (at_ S s.x ≠ some (s.k, s.n))
def fits (S : List Vp) (e : Ent) : Bool := !(e.rd.any (denies S)) && !(e.wt.any (lacks S))
def put (S : List Vp) (W : List Sp) : List Vp := W.foldl (fun l s => l.set s.x.toNat (s.k, s.n)) S
def next (S : List Vp) (e : Ent) : List Vp := if e.com then put S e.wt else S
def doS (S : List Vp) (e : Ent) : List Vp := if fits S e then next S e else S
def allS : List Vp → List Ent → List Vp
  | S, [] => S
  | S, e :: l => if fits S e then allS (next S e) l else S
def allI : List Vp → List Ent → Option Nat
  | _, [] => none
  | S, e :: l => if fits S e then (allI (next S e) l).map (· + 1) else some 0
def allN (S : List Vp) (l : List Ent) : Int := match allI S l with | none => -1 | some k => (k : Nat)
theorem has_iff (S : List Vp) (x : Int) : has S x = true ↔ 0 ≤ x ∧ x < (S.length : Int) := by simp [has]
theorem put_len (S : List Vp) (W : List Sp) : (put S W).length = S.length := by
  induction W generalizing S with
  | nil => rfl
  | cons s W ih => show (put (S.set _ _) W).length = _; rw [ih, List.length_set]
theorem next_len (S : List Vp) (e : Ent) : (next S e).length = S.length := by
  unfold next; split
  · exact put_len _ _
  · rfl
theorem doS_len (S : List Vp) (e : Ent) : (doS S e).length = S.length := by
  unfold doS; split
  · exact next_len _ _
  · rfl
theorem allS_len (S : List Vp) (l : List Ent) : (allS S l).length = S.length := by
  induction l generalizing S with
  | nil => rfl
  | cons e l ih =>
    unfold allS; split
    · rw [ih, next_len]
    · rfl
theorem allI_lt {S : List Vp} {l : List Ent} {k : Nat} (h : allI S l = some k) : k < l.length := by
  induction l generalizing S k with
  | nil => cases h
  | cons e l ih =>
    unfold allI at h
    split at h
    · cases e1 : allI (next S e) l with
      | none => rw [e1] at h; cases h
      | some j => rw [e1] at h; have h : j + 1 = k := Option.some.inj h; have := ih e1; simp; omega
    · have h := Option.some.inj h; simp; omega
theorem allI_append (S : List Vp) (l m : List Ent) : allI S (l ++ m) = (allI S l).or ((allI (allS S l) m).map (· + l.length)) := by
  induction l generalizing S with
  | nil => simp [allI, allS]
  | cons e l ih =>
    simp only [List.cons_append, allI, allS]
    split
    · rw [ih]
      cases allI (next S e) l with
      | some j => rfl
      | none =>
        cases allI (allS (next S e) l) m with
        | none => rfl
        | some j => simp; omega
    · rfl
theorem allS_append {S : List Vp} {l m : List Ent} : allS S (l ++ m) = if (allI S l).isNone then allS (allS S l) m else allS S l := by
  induction l generalizing S with
  | nil => simp [allI, allS]
  | cons e l ih =>
    simp only [List.cons_append, allI, allS]
    split
    · rw [ih]; cases allI (next S e) l <;> rfl
    · rfl
/-- who was not committed changes nothing. -/
theorem allI_com {S : List Vp} {l : List Ent} (h : allI S l = none) : allI S (l.filter (·.com)) = none ∧ allS S (l.filter (·.com)) = allS S l := by
  induction l generalizing S with
  | nil => exact ⟨rfl, rfl⟩
  | cons e l ih =>
    unfold allI at h
    split at h
    · rename_i hf
      have h1 : allI (next S e) l = none := by simpa using h
      obtain ⟨h2, h3⟩ := ih h1
      cases hc : e.com with
      | true => simp only [List.filter_cons, hc, if_true, allI, allS, hf]; rw [h2, h3]; exact ⟨rfl, rfl⟩
      | false =>
        have hn : next S e = S := by unfold next; rw [hc]; rfl
        rw [hn] at h2 h3
        simp only [List.filter_cons, hc, allS, hf, if_true]
        rw [hn]
        exact ⟨h2, h3⟩
    · cases h
/-- the last write of a place. -/
def lastW (W : List Sp) (i : Nat) : Option Sp := W.reverse.find? (fun s => decide (s.x.toNat = i))
theorem put_at (S : List Vp) (W : List Sp) (i : Nat) (hi : i < S.length) : (put S W)[i]? = match lastW W i with | some s => some (s.k, s.n) | none => S[i]? := by
  induction W generalizing S with
  | nil => rfl
  | cons s W ih =>
    show (put (S.set _ _) W)[i]? = _
    rw [ih _ (by rwa [List.length_set])]
    unfold lastW
    rw [List.reverse_cons, List.find?_append]
    cases W.reverse.find? (fun s => decide (s.x.toNat = i)) with
    | some t => rfl
    | none =>
      by_cases hx : s.x.toNat = i
      · simp [hx, hi]
      · simp [hx]
theorem put_put (S : List Vp) (W : List Sp) : put (put S W) W = put S W := by
  apply List.ext_getElem?
  intro i
  by_cases hi : i < S.length
  · rw [put_at _ _ _ (by rwa [put_len]), put_at _ _ _ hi]
    cases lastW W i <;> rfl
  · rw [List.getElem?_eq_none (by rw [put_len, put_len]; omega), List.getElem?_eq_none (by rw [put_len]; omega)]
def wrs (l : List Ent) : List Sp := l.flatMap fun e => if e.com then e.wt else []
theorem allS_wrs {S : List Vp} {l : List Ent} (h : allI S l = none) : allS S l = put S (wrs l) := by
  induction l generalizing S with
  | nil => rfl
  | cons e l ih =>
    unfold allI at h
    split at h
    · rename_i hf
      have h1 : allI (next S e) l = none := by simpa using h
      simp only [allS, hf, if_true]
      rw [ih h1]
      unfold next wrs
      rw [List.flatMap_cons]
      cases e.com with
      | true => show put (put S e.wt) _ = put S (e.wt ++ _); unfold put; rw [List.foldl_append]
      | false => rfl
    · cases h
theorem twice_same {S : List Vp} {l : List Ent} (h1 : allI S l = none) (h2 : allI (allS S l) l = none) : allS (allS S l) l = allS S l := by
  rw [allS_wrs h2, allS_wrs h1, put_put]
theorem twice_no {S : List Vp} {l : List Ent} {k : Nat} (h : allI S l = some k) : allI S (l ++ l) = some k ∧ allS S (l ++ l) = allS S l := by
  rw [allI_append, allS_append, h]; exact ⟨rfl, rfl⟩
theorem twice_yes {S : List Vp} {l : List Ent} (h : allI S l = none) : allI S (l ++ l) = (allI (allS S l) l).map (· + l.length) ∧ allS S (l ++ l) = allS (allS S l) l := by
  rw [allI_append, allS_append, h]; exact ⟨rfl, rfl⟩
theorem all_step {S : List Vp} {l : List Ent} {k : Nat} {e : Ent} (h : l[k]? = some e) (hf : fits S e = true) : allS S (l.drop k) = allS (next S e) (l.drop (k + 1)) ∧ allI S (l.drop k) = (allI (next S e) (l.drop (k + 1))).map (· + 1) := by
  obtain ⟨hl, rfl⟩ := List.getElem?_eq_some_iff.1 h
  rw [List.drop_eq_getElem_cons hl]
  exact ⟨by simp [allS, hf], by simp [allI, hf]⟩
theorem all_stop {S : List Vp} {l : List Ent} {k : Nat} {e : Ent} (h : l[k]? = some e) (hf : fits S e = false) : allS S (l.drop k) = S ∧ allI S (l.drop k) = some 0 := by
  obtain ⟨hl, rfl⟩ := List.getElem?_eq_some_iff.1 h
  rw [List.drop_eq_getElem_cons hl]
  simp [allS, allI, hf]
/-- the state behind k entries, all of which fit. -/
structure Stand (S0 : List Vp) (l : List Ent) (k : Nat) (S : List Vp) : Prop where
  s : allS S0 l = allS S (l.drop k)
  i : allI S0 l = (allI S (l.drop k)).map (· + k)
  len : S.length = S0.length
theorem Stand.zero (S : List Vp) (l : List Ent) : Stand S l 0 S := ⟨rfl, by simp, rfl⟩
theorem Stand.step {S0 S : List Vp} {l : List Ent} {k : Nat} {e : Ent} (h : Stand S0 l k S) (he : l[k]? = some e) (hf : fits S e = true) : Stand S0 l (k + 1) (next S e) := by
  obtain ⟨h1, h2⟩ := all_step he hf
  refine ⟨h.s.trans h1, ?_, (next_len _ _).trans h.len⟩
  rw [h.i, h2]
  cases allI (next S e) (l.drop (k + 1)) with
  | none => rfl
  | some j => simp; omega
theorem Stand.stop {S0 S : List Vp} {l : List Ent} {k : Nat} {e : Ent} (h : Stand S0 l k S) (he : l[k]? = some e) (hf : fits S e = false) : allS S0 l = S ∧ allN S0 l = (k : Nat) := by
  obtain ⟨h1, h2⟩ := all_stop he hf
  refine ⟨h.s.trans h1, ?_⟩
  unfold allN
  rw [h.i, h2]
  simp
theorem Stand.end_ {S0 S : List Vp} {l : List Ent} {k : Nat} (h : Stand S0 l k S) (hk : l.length ≤ k) : allS S0 l = S ∧ allN S0 l = -1 := by
  have e : l.drop k = [] := List.drop_eq_nil_of_le hk
  have h1 := h.s
  have h2 := h.i
  rw [e] at h1 h2
  exact ⟨h1, by unfold allN; rw [h2]; rfl⟩
end Go.Proofs.Ytaonepbongbhoaa.Rp
namespace Go.Proofs.Ytaonepbongbhoaa.Hi
open Tx (i64p right)
/-- an event: its kind, its transaction, its variable, its value. -/
structure Ev where
  kd : Int
  id : Int
  x : Int
  k : Int
  n : Int
def Ev.ok (e : Ev) : Prop := i64p e.kd ∧ i64p e.id ∧ i64p e.x ∧ i64p e.k ∧ i64p e.n
abbrev never : Nat := 9007199254740992
/-- how a transaction went: its beginning, its end, whether it was committed, the numbers of those of its reads and writes that count. -/
structure Cr where
  b : Nat
  e : Nat
  com : Bool
  rd : Int → Option Nat
  wr : Int → Option Nat
def over (c : Cr) : Bool := decide (c.e ≠ never)
def bare (e : Ev) : Bool := decide (e.x = 0) && (decide (e.k = 0) && decide (e.n = 0))
def liveO : Option Cr → Bool
  | some c => !over c
  | none => false
def live (l : List Cr) (id : Int) : Bool := decide (1 ≤ id) && (decide (id ≤ (l.length : Int)) && liveO l[(id - 1).toNat]?)
def fits (l : List Cr) (e : Ev) : Bool :=
  if e.kd = 0 then decide (e.id = (l.length : Int) + 1) && (decide (e.id ≤ 32) && bare e)
  else if e.kd = 1 ∨ e.kd = 2 then live l e.id && (decide (0 ≤ e.x) && (decide (e.x < 64) && right e.k e.n))
  else if e.kd = 3 ∨ e.kd = 4 then live l e.id && bare e
  else false
def begun (n : Nat) : Cr := ⟨n, never, false, fun _ => none, fun _ => none⟩
def upd (f : Int → Option Nat) (x : Int) (n : Nat) : Int → Option Nat := fun y => if y = x then some n else f y
def note (c : Cr) (n : Nat) (e : Ev) : Cr :=
  if e.kd = 1 then (if (c.rd e.x).isSome = false ∧ (c.wr e.x).isSome = false then ⟨c.b, c.e, c.com, upd c.rd e.x n, c.wr⟩ else c)
  else if e.kd = 2 then ⟨c.b, c.e, c.com, c.rd, upd c.wr e.x n⟩
  else ⟨c.b, n, decide (e.kd = 3), c.rd, c.wr⟩
def step (l : List Cr) (n : Nat) (e : Ev) : List Cr :=
  if e.kd = 0 then l ++ [begun n]
  else match l[(e.id - 1).toNat]? with
    | some c => l.set (e.id - 1).toNat (note c n e)
    | none => l
def run : Nat → List Cr → List Ev → Option (List Cr)
  | _, l, [] => some l
  | n, l, e :: es => if fits l e then run (n + 1) (step l n e) es else none
def crs (h : List Ev) : Option (List Cr) := if 2000 < h.length then none else run 0 [] h
/-- what the call hands back: none, if it is not right. -/
def crL (h : List Ev) : List Cr := (crs h).getD []
theorem live_iff {l : List Cr} {id : Int} : live l id = true ↔ ∃ j : Nat, ∃ c, id = (j : Int) + 1 ∧ l[j]? = some c ∧ over c = false := by
  unfold live
  constructor
  · intro h
    simp only [Bool.and_eq_true, decide_eq_true_eq] at h
    obtain ⟨h0, h1, h2⟩ := h
    cases hc : l[(id - 1).toNat]? with
    | none => rw [hc] at h2; simp [liveO] at h2
    | some c =>
      rw [hc] at h2
      exact ⟨(id - 1).toNat, c, by omega, hc, by simpa [liveO] using h2⟩
  · rintro ⟨j, c, rfl, hc, ho⟩
    have hl := (List.getElem?_eq_some_iff.1 hc).1
    have e : ((j : Int) + 1 - 1).toNat = j := by omega
    rw [e, hc]
    simp only [Bool.and_eq_true, decide_eq_true_eq, liveO, ho]
    exact ⟨by omega, by omega, rfl⟩
theorem fits_begin {l : List Cr} {e : Ev} (h : e.kd = 0) (hf : fits l e = true) : e.id = (l.length : Int) + 1 ∧ l.length < 32 ∧ bare e = true := by
  unfold fits at hf
  rw [if_pos h] at hf
  simp only [Bool.and_eq_true, decide_eq_true_eq] at hf
  exact ⟨hf.1, by omega, hf.2.2⟩
theorem fits_live {l : List Cr} {e : Ev} (h : e.kd ≠ 0) (hf : fits l e = true) : live l e.id = true := by
  unfold fits at hf
  rw [if_neg h] at hf
  by_cases h1 : e.kd = 1 ∨ e.kd = 2
  · rw [if_pos h1] at hf; simp only [Bool.and_eq_true] at hf; exact hf.1
  · rw [if_neg h1] at hf
    by_cases h2 : e.kd = 3 ∨ e.kd = 4
    · rw [if_pos h2] at hf; simp only [Bool.and_eq_true] at hf; exact hf.1
    · rw [if_neg h2] at hf; cases hf
theorem fits_kd {l : List Cr} {e : Ev} (hf : fits l e = true) : e.kd = 0 ∨ e.kd = 1 ∨ e.kd = 2 ∨ e.kd = 3 ∨ e.kd = 4 := by
  unfold fits at hf
  by_cases h0 : e.kd = 0
  · exact .inl h0
  · rw [if_neg h0] at hf
    by_cases h1 : e.kd = 1 ∨ e.kd = 2
    · omega
    · rw [if_neg h1] at hf
      by_cases h2 : e.kd = 3 ∨ e.kd = 4
      · omega
      · rw [if_neg h2] at hf; cases hf
theorem fits_var {l : List Cr} {e : Ev} (h : e.kd = 1 ∨ e.kd = 2) (hf : fits l e = true) : 0 ≤ e.x ∧ e.x < 64 := by
  unfold fits at hf
  rw [if_neg (by omega), if_pos h] at hf
  simp only [Bool.and_eq_true, decide_eq_true_eq] at hf
  exact ⟨hf.2.1, hf.2.2.1⟩
/-- the transaction that an event is of. -/
theorem fits_at {l : List Cr} {e : Ev} (h : e.kd ≠ 0) (hf : fits l e = true) : ∃ j : Nat, ∃ c, e.id = (j : Int) + 1 ∧ l[j]? = some c ∧ over c = false := live_iff.1 (fits_live h hf)
theorem step_begin {l : List Cr} {e : Ev} (n : Nat) (h : e.kd = 0) : step l n e = l ++ [begun n] := by unfold step; rw [if_pos h]
theorem step_note {l : List Cr} {e : Ev} (n : Nat) {j : Nat} {c : Cr} (h : e.kd ≠ 0) (hj : e.id = (j : Int) + 1) (hc : l[j]? = some c) : step l n e = l.set j (note c n e) := by
  unfold step
  rw [if_neg h, hj, show ((j : Int) + 1 - 1).toNat = j by omega, hc]
theorem run_append (a : List Ev) : ∀ (n : Nat) (l : List Cr) (b : List Ev), run n l (a ++ b) = (run n l a).bind fun l' => run (n + a.length) l' b := by
  induction a with
  | nil => intro n l b; rfl
  | cons e a ih =>
    intro n l b
    show (if fits l e then run (n + 1) (step l n e) (a ++ b) else none) = _
    show _ = Option.bind (if fits l e then run (n + 1) (step l n e) a else none) _
    by_cases h : fits l e
    · rw [if_pos h, if_pos h, ih]
      congr 1
      funext l'
      rw [List.length_cons, show n + (a.length + 1) = n + 1 + a.length by omega]
    · rw [if_neg h, if_neg h]; rfl
theorem run_snoc {n : Nat} {l l' : List Cr} {a : List Ev} {e : Ev} (h : run n l a = some l') : run n l (a ++ [e]) = if fits l' e then some (step l' (n + a.length) e) else none := by
  rw [run_append, h]; rfl
theorem rev_ind {P : List Ev → Prop} (h0 : P []) (hs : ∀ a e, P a → P (a ++ [e])) (a : List Ev) : P a := by
  have h : ∀ l : List Ev, P l.reverse := fun l => by
    induction l with
    | nil => exact h0
    | cons e l ih => rw [List.reverse_cons]; exact hs _ _ ih
  have := h a.reverse
  rwa [List.reverse_reverse] at this
/-- by the last event. -/
theorem run_ind {P : Nat → List Ev → List Cr → Prop} (h0 : P 0 [] []) (hs : ∀ (a : List Ev) (l : List Cr) (e : Ev), run 0 [] a = some l → P a.length a l → fits l e = true → P (a.length + 1) (a ++ [e]) (step l a.length e)) :
    ∀ (a : List Ev) (l : List Cr), run 0 [] a = some l → P a.length a l := by
  intro a
  refine rev_ind (P := fun a => ∀ l, run 0 [] a = some l → P a.length a l) ?_ ?_ a
  · intro l h; obtain rfl := Option.some.inj h; exact h0
  · intro a e ih l h
    rw [run_append] at h
    cases ha : run 0 [] a with
    | none => rw [ha] at h; cases h
    | some l' =>
      rw [ha] at h
      change (if fits l' e then some (step l' (0 + a.length) e) else none) = some l at h
      by_cases hf : fits l' e = true
      · rw [if_pos hf, Nat.zero_add] at h
        obtain rfl := Option.some.inj h
        have := hs a l' e ha (ih l' ha) hf
        rwa [List.length_append]
      · rw [if_neg hf] at h; cases h
/-- what holds of each transaction behind n events. -/
structure Okc (n : Nat) (c : Cr) : Prop where
  b : c.b < n
  e : c.e = never ∨ (c.b < c.e ∧ c.e < n)
  com : c.com = true → c.e ≠ never
  rd : ∀ x k, c.rd x = some k → 0 ≤ x ∧ x < 64 ∧ c.b < k ∧ k < n ∧ k < c.e
  wr : ∀ x k, c.wr x = some k → 0 ≤ x ∧ x < 64 ∧ c.b < k ∧ k < n ∧ k < c.e
theorem Okc.mono {n m : Nat} {c : Cr} (h : Okc n c) (hm : n ≤ m) : Okc m c :=
  ⟨Nat.lt_of_lt_of_le h.b hm, h.e.imp id (fun h => ⟨h.1, Nat.lt_of_lt_of_le h.2 hm⟩), h.com, fun x k e => by have := h.rd x k e; omega, fun x k e => by have := h.wr x k e; omega⟩
theorem okc_begun (n : Nat) : Okc (n + 1) (begun n) := ⟨Nat.lt_succ_self _, .inl rfl, (fun h => by cases h), (fun x k h => by cases h), (fun x k h => by cases h)⟩
theorem upd_some {f : Int → Option Nat} {x y : Int} {n k : Nat} (h : upd f x n y = some k) : (y = x ∧ k = n) ∨ f y = some k := by
  unfold upd at h
  by_cases e : y = x
  · rw [if_pos e] at h; exact .inl ⟨e, (Option.some.inj h).symm⟩
  · rw [if_neg e] at h; exact .inr h
theorem okc_note {n : Nat} {c : Cr} {e : Ev} (h : Okc n c) (ho : over c = false) (hn : n < 9007199254740992) (hx : e.kd = 1 ∨ e.kd = 2 → 0 ≤ e.x ∧ e.x < 64) : Okc (n + 1) (note c n e) := by
  have he : c.e = never := by simpa [over] using ho
  have h' := h.mono (Nat.le_succ n)
  unfold note
  by_cases h1 : e.kd = 1
  · rw [if_pos h1]
    split
    · exact ⟨h'.b, h'.e, h'.com, fun x k hk => by
        have := hx (.inl h1)
        have hb := h.b
        rcases upd_some hk with ⟨rfl, rfl⟩ | hk
        · exact ⟨this.1, this.2, hb, Nat.lt_succ_self _, by show k < c.e; rw [he]; exact hn⟩
        · exact h'.rd x k hk, h'.wr⟩
    · exact h'
  · rw [if_neg h1]
    by_cases h2 : e.kd = 2
    · rw [if_pos h2]
      exact ⟨h'.b, h'.e, h'.com, h'.rd, fun x k hk => by
        have := hx (.inr h2)
        have hb := h.b
        rcases upd_some hk with ⟨rfl, rfl⟩ | hk
        · exact ⟨this.1, this.2, hb, Nat.lt_succ_self _, by show k < c.e; rw [he]; exact hn⟩
        · exact h'.wr x k hk⟩
    · rw [if_neg h2]
      exact ⟨h'.b, .inr ⟨h.b, Nat.lt_succ_self _⟩, fun _ => by show n ≠ never; unfold never; omega, fun x k hk => by
        have := h.rd x k hk; exact ⟨this.1, this.2.1, this.2.2.1, by omega, this.2.2.2.1⟩, fun x k hk => by
        have := h.wr x k hk; exact ⟨this.1, this.2.1, this.2.2.1, by omega, this.2.2.2.1⟩⟩
theorem step_mem {l : List Cr} {n : Nat} {e : Ev} (hf : fits l e = true) {c' : Cr} (h : c' ∈ step l n e) : c' ∈ l ∨ (e.kd = 0 ∧ c' = begun n) ∨ ∃ j c, e.kd ≠ 0 ∧ e.id = ((j : Nat) : Int) + 1 ∧ l[j]? = some c ∧ over c = false ∧ c' = note c n e := by
  by_cases h0 : e.kd = 0
  · rw [step_begin n h0, List.mem_append, List.mem_singleton] at h
    rcases h with h | h
    · exact .inl h
    · exact .inr (.inl ⟨h0, h⟩)
  · obtain ⟨j, c, hj, hc, ho⟩ := fits_at h0 hf
    rw [step_note n h0 hj hc] at h
    rcases List.mem_or_eq_of_mem_set h with h | h
    · exact .inl h
    · exact .inr (.inr ⟨j, c, h0, hj, hc, ho, h⟩)
theorem run_ok {a : List Ev} {l : List Cr} (h : run 0 [] a = some l) (hn : a.length ≤ 2000) : (∀ c ∈ l, Okc a.length c) ∧ l.length ≤ 32 := by
  refine run_ind (P := fun n a l => a.length ≤ 2000 → (∀ c ∈ l, Okc n c) ∧ l.length ≤ 32) (fun _ => ⟨(fun c hc => by cases hc), by simp⟩) ?_ a l h hn
  intro a l e ha ih hf hlen
  rw [List.length_append] at hlen
  simp only [List.length_cons, List.length_nil] at hlen
  obtain ⟨i1, i2⟩ := ih (by omega)
  refine ⟨fun c hc => ?_, ?_⟩
  · rcases step_mem hf hc with hc | ⟨_, rfl⟩ | ⟨j, d, h0, hj, hd, ho, rfl⟩
    · exact (i1 c hc).mono (Nat.le_succ _)
    · exact okc_begun _
    · exact okc_note (i1 d (List.mem_of_getElem? hd)) ho (by omega) (fun hk => fits_var hk hf)
  · by_cases h0 : e.kd = 0
    · rw [step_begin _ h0]
      have := (fits_begin h0 hf).2.1
      simp; omega
    · obtain ⟨j, c, hj, hc, ho⟩ := fits_at h0 hf
      rw [step_note _ h0 hj hc, List.length_set]; exact i2
theorem crs_some {h : List Ev} {l : List Cr} (hc : crs h = some l) : h.length ≤ 2000 ∧ run 0 [] h = some l := by
  unfold crs at hc
  by_cases e : 2000 < h.length
  · rw [if_pos e] at hc; cases hc
  · rw [if_neg e] at hc; exact ⟨by omega, hc⟩
theorem crs_run {h : List Ev} (hl : h.length ≤ 2000) : crs h = run 0 [] h := by unfold crs; rw [if_neg (by omega)]
end Go.Proofs.Ytaonepbongbhoaa.Hi
namespace Go.Proofs.Ytaonepbongbhoaa.Mm
open Go.Proofs.Ytaonepbongbhoaa
structure Least (nx : Nat → Nat) (x R : Nat) : Prop where
  start : ∀ j, x.testBit j = true → R.testBit j = true
  step : ∀ i j, R.testBit i = true → (nx i).testBit j = true → R.testBit j = true
  least : ∀ S : Nat, (∀ j, x.testBit j = true → S.testBit j = true) → (∀ i j, S.testBit i = true → (nx i).testBit j = true → S.testBit j = true) → ∀ j, R.testBit j = true → S.testBit j = true
theorem Least.eq {nx : Nat → Nat} {x R S : Nat} (h : Least nx x R) (h2 : Least nx x S) : R = S := by
  apply Sm.ext; intro j
  rw [Bool.eq_iff_iff]
  exact ⟨h.least S h2.start h2.step j, h2.least R h.start h.step j⟩
theorem least_zero (nx : Nat → Nat) : Least nx 0 0 := ⟨fun j h => h, fun i j h => by simp at h, fun S _ _ j h => by simp at h⟩
theorem least_ways {nx : Nat → Nat} {e : Nat → Nat → Prop} (h : ∀ i j, (nx i).testBit j = true ↔ e i j) (hn : ∀ i, nx i < 4294967296) (a : Nat) : Least nx (nx a) (ways e a) := by
  refine ⟨fun j hj => (ways_test _ _ _).2 ⟨test32 (hn a) hj, .one ((h a j).1 hj)⟩, fun i j hi hj => ?_, fun S h1 h2 j hj => ?_⟩
  · exact (ways_test _ _ _).2 ⟨test32 (hn i) hj, .more ((ways_test _ _ _).1 hi).2 ((h i j).1 hj)⟩
  · have hw := ((ways_test _ _ _).1 hj).2
    clear hj
    induction hw with
    | one h' => exact h1 _ ((h _ _).2 h')
    | more _ h' ih => exact h2 _ _ ih ((h _ _).2 h')
theorem least_outs (m : Gr) (a : Nat) : Least (outs m) (outs m a) (ways (E m) a) := least_ways (fun i j => outs_test m i j) (outs_lt m) a
theorem least_ins (m : Gr) (a : Nat) : Least (ins m) (ins m a) (ways (fun i j => E m j i) a) := least_ways (fun i j => ins_test m i j) (ins_lt m) a
/-- all that is still to do. -/
structure Inv (nx : Nat → Nat) (x R d o : Nat) : Prop where
  dlt : d < 4294967296
  olt : o < 4294967296
  apart : ∀ j, o.testBit j = true → d.testBit j = false
  start : ∀ j, x.testBit j = true → d.testBit j = true ∨ o.testBit j = true
  sound : ∀ j, d.testBit j = true ∨ o.testBit j = true → R.testBit j = true
  step : ∀ i j, d.testBit i = true → (nx i).testBit j = true → d.testBit j = true ∨ o.testBit j = true
theorem inv_first {nx : Nat → Nat} {x R : Nat} (h : Least nx x R) (hx : x < 4294967296) : Inv nx x R 0 x :=
  ⟨by decide, hx, fun j _ => by simp, fun j hj => .inr hj, fun j hj => by
    rcases hj with hj | hj
    · simp at hj
    · exact h.start j hj, fun i j hi => by simp at hi⟩
theorem inv_last {nx : Nat → Nat} {x R d : Nat} (h : Least nx x R) (hi : Inv nx x R d 0) : d = R := by
  apply Sm.ext; intro j
  rw [Bool.eq_iff_iff]
  refine ⟨fun hj => hi.sound j (.inl hj), h.least d (fun j hj => ?_) (fun i j h1 h2 => ?_) j⟩
  · rcases hi.start j hj with h | h
    · exact h
    · simp at h
  · rcases hi.step i j h1 h2 with h | h
    · exact h
    · simp at h
theorem less_all {x d : Nat} (hd : d < 18446744073709551616) (hx : x < 18446744073709551616) (j : Nat) : (x &&& (18446744073709551615 - d)).testBit j = (x.testBit j && !d.testBit j) := by
  rw [Nat.testBit_and]
  have e : 18446744073709551615 - d = 2 ^ 64 - (d + 1) := by
    show 18446744073709551615 - d = 18446744073709551616 - (d + 1)
    omega
  rw [e, Nat.testBit_two_pow_sub_succ (by simpa using hd)]
  by_cases hj : j < 64
  · simp [hj]
  · rw [Sm.test_big hx (by omega)]; simp
def openN (nx : Nat → Nat) (d o b : Nat) : Nat := (o ||| nx b) &&& (18446744073709551615 - Sm.add d (b : Int))
theorem or_lt32 {x y : Nat} (hx : x < 4294967296) (hy : y < 4294967296) : x ||| y < 4294967296 := by
  have := Nat.or_lt_two_pow (n := 32) (x := x) (y := y) (by simpa using hx) (by simpa using hy)
  simpa using this
theorem add_same {x b : Nat} (hb : b < 32) (j : Nat) : (Sm.add x (b : Int)).testBit j = (x.testBit j || decide (j = b)) := by
  rw [Sm.add_test]
  congr 1
  rw [decide_eq_decide]; omega
theorem inv_next {nx : Nat → Nat} {x R d o b : Nat} (h : Least nx x R) (hn : ∀ i, nx i < 4294967296) (hi : Inv nx x R d o) (hb : o.testBit b = true) :
    Inv nx x R (Sm.add d (b : Int)) (openN nx d o b) ∧ d < Sm.add d (b : Int) := by
  have hb32 := test32 hi.olt hb
  have hd := hi.dlt
  have ho := hi.olt
  have hnb := hn b
  have hor := or_lt32 ho hnb
  have hdl : Sm.add d (b : Int) < 4294967296 := lt32 fun j hj => by
    rw [add_same hb32] at hj
    simp only [Bool.or_eq_true, decide_eq_true_eq] at hj
    rcases hj with hj | rfl
    · exact test32 hd hj
    · exact hb32
  have ot : ∀ j, (openN nx d o b).testBit j = ((o.testBit j || (nx b).testBit j) && !(d.testBit j || decide (j = b))) := fun j => by
    unfold openN
    rw [less_all (by omega) (by omega), add_same hb32, Nat.testBit_or]
  refine ⟨⟨hdl, Nat.lt_of_le_of_lt Nat.and_le_left hor, fun j hj => ?_, fun j hj => ?_, fun j hj => ?_, fun i j h1 h2 => ?_⟩, ?_⟩
  · rw [ot] at hj
    rw [add_same hb32]
    simp only [Bool.and_eq_true, Bool.not_eq_true'] at hj
    exact hj.2
  · rw [ot, add_same hb32]
    rcases hi.start j hj with h1 | h1
    · left; simp [h1]
    · cases hdj : d.testBit j
      · by_cases hjb : j = b
        · left; simp [hjb]
        · right; simp [h1, hjb]
      · left; simp
  · rw [ot, add_same hb32] at hj
    have hbR := hi.sound b (.inr hb)
    rcases hj with hj | hj
    · simp only [Bool.or_eq_true, decide_eq_true_eq] at hj
      rcases hj with hj | rfl
      · exact hi.sound j (.inl hj)
      · exact hbR
    · simp only [Bool.and_eq_true, Bool.or_eq_true] at hj
      rcases hj.1 with hj | hj
      · exact hi.sound j (.inr hj)
      · exact h.step b j hbR hj
  · rw [ot, add_same hb32]
    have key : d.testBit j = true ∨ (o.testBit j = true ∨ (nx b).testBit j = true) := by
      rw [add_same hb32] at h1
      simp only [Bool.or_eq_true, decide_eq_true_eq] at h1
      rcases h1 with h1 | rfl
      · rcases hi.step i j h1 h2 with h3 | h3
        · exact .inl h3
        · exact .inr (.inl h3)
      · exact .inr (.inr h2)
    cases hdj : d.testBit j
    · by_cases hjb : j = b
      · left; simp [hjb]
      · right
        rw [hdj] at key
        rcases key with h3 | h3
        · cases h3
        · rcases h3 with h3 | h3 <;> simp [h3, hjb]
    · left; simp
  · have hnot : d.testBit b = false := hi.apart b hb
    apply Nat.lt_of_le_of_ne (show d ≤ d ||| Sm.bit (b : Int) from Nat.left_le_or)
    intro he
    have h3 := congrArg (fun n => n.testBit b) he
    have h4 : d.testBit b = (Sm.add d (b : Int)).testBit b := h3
    rw [add_same hb32, hnot] at h4
    simp at h4
end Go.Proofs.Ytaonepbongbhoaa.Mm
