/-
  The least set that has some numbers and, of each that it has, all that a function tells; how one comes to it number by number. Nothing of the program.
-/
import Derived.Test.YtcfdndppkpjleaaMatMath
namespace Go.Proofs.Ytcfdndppkpjleaa.Mm
open Go.Proofs.Ytcfdndppkpjleaa
structure Least (nx : Nat → Nat) (x R : Nat) : Prop where
  start : ∀ j, x.testBit j = true → R.testBit j = true
  step : ∀ i j, R.testBit i = true → (nx i).testBit j = true → R.testBit j = true
  least : ∀ S : Nat, (∀ j, x.testBit j = true → S.testBit j = true) → (∀ i j, S.testBit i = true → (nx i).testBit j = true → S.testBit j = true) → ∀ j, R.testBit j = true → S.testBit j = true
theorem Least.eq {nx : Nat → Nat} {x R S : Nat} (h : Least nx x R) (h2 : Least nx x S) : R = S := by
  apply Sm.ext; intro j
  rw [Bool.eq_iff_iff]
  exact ⟨h.least S h2.start h2.step j, h2.least R h.start h.step j⟩
theorem least_zero (nx : Nat → Nat) : Least nx 0 0 := ⟨fun j h => h, fun i j h => by simp at h, fun S _ _ j h => by simp at h⟩
theorem least_ways {nx : Nat → Nat} {e : Nat → Nat → Prop} (h : ∀ i j, (nx i).testBit j = true ↔ e i j) (hn : ∀ i, nx i < 4294967296) (a : Nat) : Least nx (nx a) (ways e a) := by
  refine ⟨fun j hj => (ways_test _ _ _).2 ⟨test32 (hn a) hj, .one ((h a j).1 hj)⟩, fun i j hi hj => ?_, fun S h1 h2 j hj => ?_⟩
  · exact (ways_test _ _ _).2 ⟨test32 (hn i) hj, .more ((ways_test _ _ _).1 hi).2 ((h i j).1 hj)⟩
  · have hw := ((ways_test _ _ _).1 hj).2
    clear hj
    induction hw with
    | one h' => exact h1 _ ((h _ _).2 h')
    | more _ h' ih => exact h2 _ _ ih ((h _ _).2 h')
theorem least_outs (m : Gr) (a : Nat) : Least (outs m) (outs m a) (ways (E m) a) := least_ways (fun i j => outs_test m i j) (outs_lt m) a
theorem least_ins (m : Gr) (a : Nat) : Least (ins m) (ins m a) (ways (fun i j => E m j i) a) := least_ways (fun i j => ins_test m i j) (ins_lt m) a
/-- all that is still to do. -/
structure Inv (nx : Nat → Nat) (x R d o : Nat) : Prop where
  dlt : d < 4294967296
  olt : o < 4294967296
  apart : ∀ j, o.testBit j = true → d.testBit j = false
  start : ∀ j, x.testBit j = true → d.testBit j = true ∨ o.testBit j = true
  sound : ∀ j, d.testBit j = true ∨ o.testBit j = true → R.testBit j = true
  step : ∀ i j, d.testBit i = true → (nx i).testBit j = true → d.testBit j = true ∨ o.testBit j = true
theorem inv_first {nx : Nat → Nat} {x R : Nat} (h : Least nx x R) (hx : x < 4294967296) : Inv nx x R 0 x :=
  ⟨by decide, hx, fun j _ => by simp, fun j hj => .inr hj, fun j hj => by
    rcases hj with hj | hj
    · simp at hj
    · exact h.start j hj, fun i j hi => by simp at hi⟩
theorem inv_last {nx : Nat → Nat} {x R d : Nat} (h : Least nx x R) (hi : Inv nx x R d 0) : d = R := by
  apply Sm.ext; intro j
  rw [Bool.eq_iff_iff]
  refine ⟨fun hj => hi.sound j (.inl hj), h.least d (fun j hj => ?_) (fun i j h1 h2 => ?_) j⟩
  · rcases hi.start j hj with h | h
    · exact h
    · simp at h
  · rcases hi.step i j h1 h2 with h | h
    · exact h
    · simp at h
theorem less_all {x d : Nat} (hd : d < 18446744073709551616) (hx : x < 18446744073709551616) (j : Nat) : (x &&& (18446744073709551615 - d)).testBit j = (x.testBit j && !d.testBit j) := by
  rw [Nat.testBit_and]
  have e : 18446744073709551615 - d = 2 ^ 64 - (d + 1) := by
    show 18446744073709551615 - d = 18446744073709551616 - (d + 1)
    omega
  rw [e, Nat.testBit_two_pow_sub_succ (by simpa using hd)]
  by_cases hj : j < 64
  · simp [hj]
  · rw [Sm.test_big hx (by omega)]; simp
def openN (nx : Nat → Nat) (d o b : Nat) : Nat := (o ||| nx b) &&& (18446744073709551615 - Sm.add d (b : Int))
theorem or_lt32 {x y : Nat} (hx : x < 4294967296) (hy : y < 4294967296) : x ||| y < 4294967296 := by
  have := Nat.or_lt_two_pow (n := 32) (x := x) (y := y) (by simpa using hx) (by simpa using hy)
  simpa using this
theorem add_same {x b : Nat} (hb : b < 32) (j : Nat) : (Sm.add x (b : Int)).testBit j = (x.testBit j || decide (j = b)) := by
  rw [Sm.add_test]
  congr 1
  rw [decide_eq_decide]; omega
theorem inv_next {nx : Nat → Nat} {x R d o b : Nat} (h : Least nx x R) (hn : ∀ i, nx i < 4294967296) (hi : Inv nx x R d o) (hb : o.testBit b = true) :
    Inv nx x R (Sm.add d (b : Int)) (openN nx d o b) ∧ d < Sm.add d (b : Int) := by
  have hb32 := test32 hi.olt hb
  have hd := hi.dlt
  have ho := hi.olt
  have hnb := hn b
  have hor := or_lt32 ho hnb
  have hdl : Sm.add d (b : Int) < 4294967296 := lt32 fun j hj => by
    rw [add_same hb32] at hj
    simp only [Bool.or_eq_true, decide_eq_true_eq] at hj
    rcases hj with hj | rfl
    · exact test32 hd hj
    · exact hb32
  have ot : ∀ j, (openN nx d o b).testBit j = ((o.testBit j || (nx b).testBit j) && !(d.testBit j || decide (j = b))) := fun j => by
    unfold openN
    rw [less_all (by omega) (by omega), add_same hb32, Nat.testBit_or]
  refine ⟨⟨hdl, Nat.lt_of_le_of_lt Nat.and_le_left hor, fun j hj => ?_, fun j hj => ?_, fun j hj => ?_, fun i j h1 h2 => ?_⟩, ?_⟩
  · rw [ot] at hj
    rw [add_same hb32]
    simp only [Bool.and_eq_true, Bool.not_eq_true'] at hj
    exact hj.2
  · rw [ot, add_same hb32]
    rcases hi.start j hj with h1 | h1
    · left; simp [h1]
    · cases hdj : d.testBit j
      · by_cases hjb : j = b
        · left; simp [hjb]
        · right; simp [h1, hjb]
      · left; simp
  · rw [ot, add_same hb32] at hj
    have hbR := hi.sound b (.inr hb)
    rcases hj with hj | hj
    · simp only [Bool.or_eq_true, decide_eq_true_eq] at hj
      rcases hj with hj | rfl
      · exact hi.sound j (.inl hj)
      · exact hbR
    · simp only [Bool.and_eq_true, Bool.or_eq_true] at hj
      rcases hj.1 with hj | hj
      · exact hi.sound j (.inr hj)
      · exact h.step b j hbR hj
  · rw [ot, add_same hb32]
    have key : d.testBit j = true ∨ (o.testBit j = true ∨ (nx b).testBit j = true) := by
      rw [add_same hb32] at h1
      simp only [Bool.or_eq_true, decide_eq_true_eq] at h1
      rcases h1 with h1 | rfl
      · rcases hi.step i j h1 h2 with h3 | h3
        · exact .inl h3
        · exact .inr (.inl h3)
      · exact .inr (.inr h2)
    cases hdj : d.testBit j
    · by_cases hjb : j = b
      · left; simp [hjb]
      · right
        rw [hdj] at key
        rcases key with h3 | h3
        · cases h3
        · rcases h3 with h3 | h3 <;> simp [h3, hjb]
    · left; simp
  · have hnot : d.testBit b = false := hi.apart b hb
    apply Nat.lt_of_le_of_ne (show d ≤ d ||| Sm.bit (b : Int) from Nat.left_le_or)
    intro he
    have h3 := congrArg (fun n => n.testBit b) he
    have h4 : d.testBit b = (Sm.add d (b : Int)).testBit b := h3
    rw [add_same hb32, hnot] at h4
    simp at h4
end Go.Proofs.Ytcfdndppkpjleaa.Mm
