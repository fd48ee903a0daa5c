/-
  Plain mathematics of graphs of 32 nodes as 32 sets: edges, ways, what is reached; how an edge more, or a node without its edges, changes that. Nothing of the program.
-/
import Derived.Test.YtcfdndppkpjleaaSetMath
namespace Go.Proofs.Ytcfdndppkpjleaa.Mm
open Go.Proofs.Ytcfdndppkpjleaa

abbrev Gr := Nat → Nat
/-- each row is a set. -/
def Ok (m : Gr) : Prop := ∀ i, i < 32 → m i < 18446744073709551616
/-- an edge. -/
def E (m : Gr) (i j : Nat) : Prop := i < 32 ∧ j < 32 ∧ (m i).testBit j = true
/-- edges, one at least, one behind the other. -/
inductive W (e : Nat → Nat → Prop) : Nat → Nat → Prop
  | one {i j} : e i j → W e i j
  | more {i j k} : W e i j → e j k → W e i k
theorem W.trans {e : Nat → Nat → Prop} {i j k : Nat} (h : W e i j) (h2 : W e j k) : W e i k := by
  induction h2 with
  | one h' => exact .more h h'
  | more _ h' ih => exact .more ih h'
theorem W.head {e : Nat → Nat → Prop} {i j k : Nat} (h : e i j) (h2 : W e j k) : W e i k := (W.one h).trans h2
theorem W.mono {e f : Nat → Nat → Prop} (hf : ∀ i j, e i j → f i j) {i j : Nat} (h : W e i j) : W f i j := by
  induction h with
  | one h' => exact .one (hf _ _ h')
  | more _ h' ih => exact .more ih (hf _ _ h')
theorem W.flip {e : Nat → Nat → Prop} {i j : Nat} (h : W e i j) : W (fun a b => e b a) j i := by
  induction h with
  | one h' => exact .one h'
  | more _ h' ih => exact W.head (e := fun a b => e b a) h' ih
theorem W.cases_head {e : Nat → Nat → Prop} {i k : Nat} (h : W e i k) : e i k ∨ ∃ j, e i j ∧ W e j k := by
  induction h with
  | one h' => exact .inl h'
  | more _ h' ih =>
    rcases ih with h1 | ⟨j, h1, h2⟩
    · exact .inr ⟨_, h1, .one h'⟩
    · exact .inr ⟨j, h1, .more h2 h'⟩
theorem W.nodes {m : Gr} {i j : Nat} (h : W (E m) i j) : i < 32 ∧ j < 32 := by
  induction h with
  | one h' => exact ⟨h'.1, h'.2.1⟩
  | more _ h' ih => exact ⟨ih.1, h'.2.1⟩

/-- the set of all that p tells, below n. -/
def mk (p : Nat → Bool) : Nat → Nat
  | 0 => 0
  | n + 1 => if p n then Sm.add (mk p n) (n : Int) else mk p n
theorem mk_lt (p : Nat → Bool) (n : Nat) : mk p n < 18446744073709551616 := by
  induction n with
  | zero => simp [mk]
  | succ n ih => unfold mk; split; exact Sm.add_lt _ ih; exact ih
theorem mk_test (p : Nat → Bool) (n j : Nat) (hn : n ≤ 64) : (mk p n).testBit j = (decide (j < n) && p j) := by
  induction n with
  | zero => simp [mk]
  | succ n ih =>
    have ih := ih (by omega)
    unfold mk
    by_cases hj : j = n
    · subst hj
      split
      · rename_i h
        rw [Sm.add_test, ih, decide_eq_true (p := (0 ≤ (j : Int) ∧ (j : Int) ≤ 63 ∧ (j : Int) = (j : Int))) (by omega)]
        simp [h]
      · rename_i h
        rw [ih]; simp [h]
    · have e : decide (j < n + 1) = decide (j < n) := by rw [decide_eq_decide]; omega
      split
      · rw [Sm.add_test, ih, decide_eq_false (p := (0 ≤ (n : Int) ∧ (n : Int) ≤ 63 ∧ (j : Int) = (n : Int))) (by omega), e]
        simp
      · rw [ih, e]
open Classical in
/-- all that a way goes to. -/
noncomputable def ways (e : Nat → Nat → Prop) (i : Nat) : Nat := mk (fun j => decide (W e i j)) 32
theorem ways_lt (e : Nat → Nat → Prop) (i : Nat) : ways e i < 18446744073709551616 := mk_lt _ _
theorem ways_test (e : Nat → Nat → Prop) (i j : Nat) : (ways e i).testBit j = true ↔ j < 32 ∧ W e i j := by
  unfold ways
  rw [mk_test _ _ _ (by omega)]
  simp
theorem ways_eq {e : Nat → Nat → Prop} {i R : Nat} (h : ∀ j, R.testBit j = true ↔ j < 32 ∧ W e i j) : R = ways e i := by
  apply Sm.ext; intro j
  rw [Bool.eq_iff_iff, h j, ways_test]
theorem ways_congr {e f : Nat → Nat → Prop} {i k : Nat} (h : ∀ j, W e i j ↔ W f k j) : ways e i = ways f k :=
  ways_eq fun j => by rw [ways_test, h j]
theorem lt32 {x : Nat} (h : ∀ j, x.testBit j = true → j < 32) : x < 4294967296 := by
  have := Nat.lt_pow_two_of_testBit x (n := 32) (fun i hi => by
    cases hb : x.testBit i
    · rfl
    · have := h i hb; omega)
  simpa using this
theorem ways_lt32 (e : Nat → Nat → Prop) (i : Nat) : ways e i < 4294967296 := lt32 fun j h => ((ways_test e i j).1 h).1
theorem test32 {x j : Nat} (h : x < 4294967296) (hj : x.testBit j = true) : j < 32 := by
  apply Classical.byContradiction
  intro hn
  rw [Nat.testBit_lt_two_pow (Nat.lt_of_lt_of_le h (by
    have : (2 : Nat) ^ 32 ≤ 2 ^ j := Nat.pow_le_pow_right (by decide) (by omega)
    simpa using this))] at hj
  cases hj

/-- all that one edge goes to, from which one comes. -/
def outs (m : Gr) (i : Nat) : Nat := if i < 32 then m i % 4294967296 else 0
def ins (m : Gr) (i : Nat) : Nat := if i < 32 then mk (fun j => (m j).testBit i) 32 else 0
theorem outs_lt (m : Gr) (i : Nat) : outs m i < 4294967296 := by
  unfold outs; split
  · exact Nat.mod_lt _ (by decide)
  · decide
theorem outs_test (m : Gr) (i j : Nat) : (outs m i).testBit j = true ↔ E m i j := by
  unfold outs E
  split
  · rename_i h
    rw [show (4294967296 : Nat) = 2 ^ 32 from rfl, Nat.testBit_mod_two_pow]
    simp [h]
  · rename_i h
    simp [h]
theorem ins_test (m : Gr) (i j : Nat) : (ins m i).testBit j = true ↔ E m j i := by
  unfold ins E
  split
  · rename_i h
    rw [mk_test _ _ _ (by omega)]
    simp [h]
  · rename_i h
    simp [h]
theorem ins_lt (m : Gr) (i : Nat) : ins m i < 4294967296 := lt32 fun j h => ((ins_test m i j).1 h).1

/-- the graph with an edge more, and without a node's edges. -/
def put (m : Gr) (a b : Nat) : Gr := fun i => if i = a then Sm.add (m i) (b : Int) else m i
def clr (m : Gr) (a : Nat) : Gr := fun i => if i = a then m i - m i % 4294967296 else m i
/-- the first k rows without a. -/
def cutTo (m : Gr) (a k : Nat) : Gr := fun i => if i < k then Sm.less (m i) (a : Int) else m i
def cut (m : Gr) (a : Nat) : Gr := fun i => Sm.less (clr m a i) (a : Int)
theorem put_ok {m : Gr} (a b : Nat) (h : Ok m) : Ok (put m a b) := by
  intro i hi
  unfold put
  split
  · exact Sm.add_lt _ (h i hi)
  · exact h i hi
theorem clr_ok {m : Gr} (a : Nat) (h : Ok m) : Ok (clr m a) := by
  intro i hi
  unfold clr
  split
  · have := h i hi; omega
  · exact h i hi
theorem cut_ok {m : Gr} (a : Nat) (h : Ok m) : Ok (cut m a) := fun i hi => Sm.less_lt _ (clr_ok a h i hi)
theorem put_E {m : Gr} {a b : Nat} (ha : a < 32) (hb : b < 32) (i j : Nat) : E (put m a b) i j ↔ E m i j ∨ (i = a ∧ j = b) := by
  unfold E put
  by_cases h : i = a
  · subst h
    rw [if_pos rfl, Sm.add_test]
    by_cases hj : j = b
    · subst hj
      rw [decide_eq_true (p := (0 ≤ (j : Int) ∧ (j : Int) ≤ 63 ∧ (j : Int) = (j : Int))) (by omega)]
      simp [ha, hb]
    · rw [decide_eq_false (p := (0 ≤ (b : Int) ∧ (b : Int) ≤ 63 ∧ (j : Int) = (b : Int))) (by omega)]
      simp [hj]
  · rw [if_neg h]
    simp [h]
theorem clr_test (x j : Nat) : (x - x % 4294967296).testBit j = (x.testBit j && decide (32 ≤ j)) := by
  have e : x - x % 4294967296 = 2 ^ 32 * (x / 2 ^ 32) + 0 := by
    have := Nat.div_add_mod x (2 ^ 32)
    simp only [Nat.reducePow] at this ⊢
    omega
  rw [e, Nat.testBit_two_pow_mul_add _ (by decide)]
  by_cases h : j < 32
  · simp [h]
  · rw [if_neg h, Nat.testBit_div_two_pow]
    simp [show 32 ≤ j from by omega]
theorem cut_E {m : Gr} (hm : Ok m) {a : Nat} (ha : a < 32) (i j : Nat) : E (cut m a) i j ↔ E m i j ∧ i ≠ a ∧ j ≠ a := by
  unfold E
  constructor
  · rintro ⟨hi, hj, ht⟩
    have ht' : (Sm.less (clr m a i) (a : Int)).testBit j = true := ht
    rw [Sm.less_test _ _ (clr_ok a hm i hi)] at ht'
    simp only [Bool.and_eq_true] at ht'
    obtain ⟨h1, h2⟩ := ht'
    have hja : j ≠ a := by
      rintro rfl
      rw [decide_eq_true (p := (0 ≤ (j : Int) ∧ (j : Int) ≤ 63 ∧ (j : Int) = (j : Int))) (by omega)] at h2
      simp at h2
    unfold clr at h1
    split at h1
    · rw [clr_test] at h1
      simp [show ¬ 32 ≤ j from by omega] at h1
    · rename_i hia
      exact ⟨⟨hi, hj, h1⟩, hia, hja⟩
  · rintro ⟨⟨hi, hj, ht⟩, hia, hja⟩
    refine ⟨hi, hj, ?_⟩
    show (Sm.less (clr m a i) (a : Int)).testBit j = true
    rw [Sm.less_test _ _ (clr_ok a hm i hi)]
    unfold clr
    rw [if_neg hia, ht, decide_eq_false (p := (0 ≤ (a : Int) ∧ (a : Int) ≤ 63 ∧ (j : Int) = (a : Int))) (by omega)]
    rfl
open Classical in
/-- is there no way round? -/
noncomputable def free (m : Gr) : Bool := decide (∀ i, ¬ W (E m) i i)
theorem free_iff (m : Gr) : free m = true ↔ ∀ i, ¬ W (E m) i i := by unfold free; simp
theorem free_not (m : Gr) : free m = false ↔ ∃ i, W (E m) i i := by
  unfold free; simp

/-- a way in the graph with one edge more goes without it, or by it. -/
theorem put_way {m : Gr} {a b : Nat} (ha : a < 32) (hb : b < 32) {i j : Nat} (h : W (E (put m a b)) i j) :
    W (E m) i j ∨ ((i = a ∨ W (E m) i a) ∧ (j = b ∨ W (E m) b j)) := by
  induction h with
  | one h' =>
    rcases (put_E ha hb _ _).1 h' with h1 | ⟨rfl, rfl⟩
    · exact .inl (.one h1)
    · exact .inr ⟨.inl rfl, .inl rfl⟩
  | more _ h' ih =>
    rcases (put_E ha hb _ _).1 h' with h1 | ⟨rfl, rfl⟩
    · rcases ih with h2 | ⟨h2, h3⟩
      · exact .inl (.more h2 h1)
      · refine .inr ⟨h2, .inr ?_⟩
        rcases h3 with rfl | h3
        · exact .one h1
        · exact .more h3 h1
    · rcases ih with h2 | ⟨h2, h3⟩
      · exact .inr ⟨.inr h2, .inl rfl⟩
      · exact .inr ⟨h2, .inl rfl⟩
theorem put_up {m : Gr} {a b : Nat} (ha : a < 32) (hb : b < 32) {i j : Nat} (h : W (E m) i j) : W (E (put m a b)) i j :=
  h.mono fun _ _ h' => (put_E ha hb _ _).2 (.inl h')
theorem cut_down {m : Gr} (hm : Ok m) {a : Nat} (ha : a < 32) {i j : Nat} (h : W (E (cut m a)) i j) : W (E m) i j :=
  h.mono fun _ _ h' => ((cut_E hm ha _ _).1 h').1
theorem cut_from {m : Gr} (hm : Ok m) {a : Nat} (ha : a < 32) {j : Nat} : ¬ W (E (cut m a)) a j := by
  intro h
  rcases h.cases_head with h1 | ⟨_, h1, _⟩
  · exact ((cut_E hm ha _ _).1 h1).2.1 rfl
  · exact ((cut_E hm ha _ _).1 h1).2.1 rfl
theorem cut_to {m : Gr} (hm : Ok m) {a : Nat} (ha : a < 32) {i : Nat} : ¬ W (E (cut m a)) i a := by
  intro h
  cases h with
  | one h' => exact ((cut_E hm ha _ _).1 h').2.2 rfl
  | more _ h' => exact ((cut_E hm ha _ _).1 h').2.2 rfl
/-- an edge closes a graph without a way round just if its end reaches its beginning. -/
theorem put_closes {m : Gr} {a b : Nat} (ha : a < 32) (hb : b < 32) (hab : a ≠ b) (hf : free m = true) : free (put m a b) = !Sm.has (ways (E m) b) (a : Int) := by
  rw [Sm.has_nat _ (ways_lt _ _)]
  rw [free_iff] at hf
  cases hw : (ways (E m) b).testBit a
  · rw [Bool.not_false, free_iff]
    intro i h
    rcases put_way ha hb h with h1 | ⟨h1, h2⟩
    · exact hf i h1
    · have hn : ¬ W (E m) b a := fun h3 => by
        rw [(ways_test _ _ _).2 ⟨ha, h3⟩] at hw; cases hw
      rcases h1 with rfl | h1
      · rcases h2 with rfl | h2
        · exact hab rfl
        · exact hn h2
      · rcases h2 with rfl | h2
        · exact hn h1
        · exact hn (h2.trans h1)
  · rw [Bool.not_true, free_not]
    have := ((ways_test _ _ _).1 hw).2
    exact ⟨b, .more (put_up ha hb this) ((put_E ha hb _ _).2 (.inr ⟨rfl, rfl⟩))⟩
theorem put_still {m : Gr} {a b : Nat} (ha : a < 32) (hb : b < 32) (hf : free m = false) : free (put m a b) = false := by
  rw [free_not] at hf ⊢
  obtain ⟨i, h⟩ := hf
  exact ⟨i, put_up ha hb h⟩
/-- the other way. -/
theorem flip_way (m : Gr) (i j : Nat) : W (fun a b => E m b a) i j ↔ W (E m) j i :=
  ⟨fun h => h.flip, fun h => h.flip⟩
end Go.Proofs.Ytcfdndppkpjleaa.Mm
