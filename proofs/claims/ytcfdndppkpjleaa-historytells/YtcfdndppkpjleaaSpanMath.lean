/-
  Plain mathematics of spans: which words are parts of a span, how two parts stand, and what comes of spans, as pairs of natural numbers.
-/
import Derived.Test.YtcfdndppkpjleaaSpanFloat
namespace Go.Proofs.Ytcfdndppkpjleaa
open Ieee
namespace Fl
/-- x is the whole number n, from 0 to Never. -/
def Part (x n : Nat) : Prop := n ≤ never ∧ ∃ s, Num x s (n * S) ∧ (s = true → n = 0)
theorem Part.sg {x n : Nat} (h : Part x n) : ∃ s, Num x s (n * S) ∧ Fl.sg s (n * S) = (n : Int) * (S : Int) := by
  obtain ⟨_, s, h, hs⟩ := h
  refine ⟨s, h, ?_⟩
  cases s
  · show ((n * S : Nat) : Int) = _; simp
  · rw [hs rfl]; show -((0 * S : Nat) : Int) = _; simp
theorem order_part {x y a b : Nat} (hx : Part x a) (hy : Part y b) : double.order x y = some (compare (a : Int) (b : Int)) := by
  obtain ⟨s, h1, e1⟩ := hx.sg
  obtain ⟨t, h2, e2⟩ := hy.sg
  rw [order_num h1 h2, e1, e2, compare_mul _ _ _ S_pos]
theorem part_of (n : Nat) (h : n ≤ never) : Part (double.nearest false n 0) n := ⟨h, false, nearest_num false n h, fun e => by cases e⟩
theorem part_zero : Part 0 0 := part_of 0 (by decide)
theorem part_never : Part 4845873199050653696 never := by
  have h := part_of never (by decide)
  rwa [show double.nearest false never 0 = 4845873199050653696 by decide +kernel] at h
theorem Part.uniq {x a b : Nat} (h : Part x a) (k : Part x b) : a = b := by
  have h1 := order_part h k
  have h2 := order_part h h
  rw [h1] at h2
  injection h2 with h2
  have e : compare (a : Int) (a : Int) = .eq := Int.compare_eq_eq.2 rfl
  rw [e] at h2
  have := Int.compare_eq_eq.1 h2
  omega
noncomputable def prt (x : Nat) : Option Nat := open Classical in if h : ∃ n, Part x n then some (Classical.choose h) else none
theorem part_iff {x n : Nat} : prt x = some n ↔ Part x n := by
  unfold prt
  split
  · rename_i h
    have := Classical.choose_spec h
    constructor
    · intro e; injection e with e; rwa [e] at this
    · intro k; rw [this.uniq k]
  · rename_i h
    constructor
    · intro e; cases e
    · intro k; exact absurd ⟨n, k⟩ h
theorem part_none {x : Nat} : prt x = none ↔ ∀ n, ¬ Part x n := by
  constructor
  · intro h n k
    rw [part_iff.2 k] at h
    cases h
  · intro h
    cases e : prt x with
    | none => rfl
    | some n => exact absurd (part_iff.1 e) (h n)
/- how the program looks at a word -/
abbrev ord (x y : Nat) : Option Ordering := FloatKind.f64.format.order x y
theorem ord_eq (x y : Nat) : ord x y = double.order x y := rfl
def ge0 (x : Nat) : Bool := ord x 0 == some .gt || ord x 0 == some .eq
def leN (x : Nat) : Bool := ord x 4845873199050653696 == some .lt || ord x 4845873199050653696 == some .eq
def isT (x : Nat) : Bool := ord x (trunc x) == some .eq
theorem zero_num : Num 0 false 0 := by
  have := nearest_num false 0 (by decide)
  rwa [show double.nearest false 0 0 = 0 by decide +kernel, Nat.zero_mul] at this
theorem never_num : Num 4845873199050653696 false (never * S) := by
  have := nearest_num false never (by decide)
  rwa [show double.nearest false never 0 = 4845873199050653696 by decide +kernel] at this
theorem ge0_num {x A : Nat} {s : Bool} (h : Num x s A) : ge0 x = true ↔ (s = true → A = 0) := by
  unfold ge0
  rw [ord_eq, order_num h zero_num]
  cases s
  · rcases Nat.eq_zero_or_pos A with rfl | hp
    · simp [Fl.sg]
    · have : compare (Fl.sg false A) (Fl.sg false 0) = .gt := Int.compare_eq_gt.2 (by simp [Fl.sg]; omega)
      rw [this]; simp
  · rcases Nat.eq_zero_or_pos A with rfl | hp
    · simp [Fl.sg]
    · have : compare (Fl.sg true A) (Fl.sg false 0) = .lt := Int.compare_eq_lt.2 (by simp [Fl.sg]; omega)
      rw [this]; simp; omega
theorem leN_num {x A : Nat} {s : Bool} (h : Num x s A) (hs : s = true → A = 0) : leN x = true ↔ A ≤ never * S := by
  have e : Fl.sg s A = (A : Int) := by
    cases s
    · rfl
    · rw [hs rfl]; rfl
  unfold leN
  rw [ord_eq, order_num h never_num, e, show Fl.sg false (never * S) = ((never * S : Nat) : Int) from rfl]
  generalize never * S = B
  rcases Nat.lt_trichotomy A B with hl | hl | hl
  · rw [Int.compare_eq_lt.2 (by omega)]; simp; omega
  · rw [Int.compare_eq_eq.2 (by omega)]; simp; omega
  · rw [Int.compare_eq_gt.2 (by omega)]; simp; omega
theorem same_sign (s : Bool) (A B : Nat) : (some (compare (Fl.sg s A) (Fl.sg s B)) == some Ordering.eq) = true ↔ A = B := by
  cases s
  · change (some (compare (A : Int) (B : Int)) == some Ordering.eq) = true ↔ A = B
    rcases Nat.lt_trichotomy A B with hl | hl | hl
    · rw [Int.compare_eq_lt.2 (show (A : Int) < (B : Int) by omega)]; simp; omega
    · rw [Int.compare_eq_eq.2 (show (A : Int) = (B : Int) by omega)]; simp; omega
    · rw [Int.compare_eq_gt.2 (show (B : Int) < (A : Int) by omega)]; simp; omega
  · change (some (compare (-(A : Int)) (-(B : Int))) == some Ordering.eq) = true ↔ A = B
    rcases Nat.lt_trichotomy A B with hl | hl | hl
    · rw [Int.compare_eq_gt.2 (show -(B : Int) < -(A : Int) by omega)]; simp; omega
    · rw [Int.compare_eq_eq.2 (show -(A : Int) = -(B : Int) by omega)]; simp; omega
    · rw [Int.compare_eq_lt.2 (show -(A : Int) < -(B : Int) by omega)]; simp; omega
theorem isT_num {x A : Nat} {s : Bool} (h : Num x s A) (hA : A ≤ never * S) : isT x = true ↔ A = A / S * S := by
  have hq : A / S ≤ never := (Nat.div_le_iff_le_mul_add_pred S_pos).2 (by rw [Nat.mul_comm]; omega)
  unfold isT
  rw [ord_eq, trunc_num h, order_num h (nearest_num s _ hq)]
  clear h hA hq
  exact same_sign s A (A / S * S)
theorem num_of_ge0 {x : Nat} (h0 : ge0 x = true) (h1 : leN x = true) : ∃ s A, Num x s A := by
  rcases cases_ x with ⟨s, t, h⟩ | ⟨s, h⟩ | h
  · unfold ge0 at h0
    rw [ord_eq, Format.order, h] at h0
    simp [Datum.order] at h0
  · obtain ⟨m, p, hz, _, _⟩ := zero_num
    obtain ⟨m2, p2, hn, _, _⟩ := never_num
    unfold ge0 at h0
    unfold leN at h1
    rw [ord_eq, Format.order, h, hz] at h0
    rw [ord_eq, Format.order, h, hn] at h1
    cases s <;> simp [Datum.order] at h0 h1
  · exact h
theorem whole_iff (x : Nat) : (prt x).isSome = true ↔ ge0 x = true ∧ leN x = true ∧ isT x = true := by
  constructor
  · intro h
    obtain ⟨n, hn⟩ := Option.isSome_iff_exists.1 h
    obtain ⟨hl, s, hN, hs⟩ := part_iff.1 hn
    have hs' : s = true → n * S = 0 := fun e => by rw [hs e, Nat.zero_mul]
    have hb : n * S ≤ never * S := Nat.mul_le_mul_right _ hl
    exact ⟨(ge0_num hN).2 hs', (leN_num hN hs').2 hb, (isT_num hN hb).2 (by rw [Nat.mul_div_cancel _ S_pos])⟩
  · rintro ⟨h0, h1, h2⟩
    obtain ⟨s, A, hN⟩ := num_of_ge0 h0 h1
    have hs := (ge0_num hN).1 h0
    have hb := (leN_num hN hs).1 h1
    have ht := (isT_num hN hb).1 h2
    have hq : A / S ≤ never := (Nat.div_le_iff_le_mul_add_pred S_pos).2 (by rw [Nat.mul_comm]; omega)
    have : Part x (A / S) := ⟨hq, s, by rw [← ht]; exact hN, fun e => by rw [hs e, Nat.zero_div]⟩
    rw [part_iff.2 this]; rfl
theorem not_nan {x : Nat} (h : ge0 x = true) : ∀ s t, double.read x ≠ .nan s t := by
  intro s t e
  unfold ge0 at h
  rw [ord_eq, Format.order, e] at h
  simp [Datum.order] at h
theorem toInt_part {x n : Nat} (h : Part x n) : floatToIntVal .f64 x .i64 = some (n : Int) := by
  obtain ⟨hl, s, hN, hs⟩ := h
  have e : (FloatKind.f64.decode x).toInt .zero = some (n : Int) := by
    show (double.read x).toInt .zero = _
    rw [toInt_num hN, Nat.mul_div_cancel _ S_pos]
    cases s
    · rfl
    · rw [hs rfl]; rfl
  unfold floatToIntVal
  rw [e]
  unfold never at hl
  have a : IntKind.i64.min ≤ (n : Int) ∧ (n : Int) ≤ IntKind.i64.max := by
    have e1 : IntKind.i64.min = -9223372036854775808 := by decide
    have e2 : IntKind.i64.max = 9223372036854775807 := by decide
    omega
  dsimp only
  rw [if_pos a]
theorem ord_lt {x y a b : Nat} (hx : prt x = some a) (hy : prt y = some b) : (ord x y == some .lt) = decide (a < b) := by
  rw [ord_eq, order_part (part_iff.1 hx) (part_iff.1 hy)]
  rcases Nat.lt_trichotomy a b with h | h | h
  · rw [Int.compare_eq_lt.2 (by omega)]; simp [h]
  · rw [Int.compare_eq_eq.2 (by omega)]; simp [h]
  · rw [Int.compare_eq_gt.2 (by omega)]; simp; omega
theorem ord_same {x y a b : Nat} (hx : prt x = some a) (hy : prt y = some b) : (ord x y == some .eq) = decide (a = b) := by
  rw [ord_eq, order_part (part_iff.1 hx) (part_iff.1 hy)]
  rcases Nat.lt_trichotomy a b with h | h | h
  · rw [Int.compare_eq_lt.2 (by omega)]; simp; omega
  · rw [Int.compare_eq_eq.2 (by omega)]; simp [h]
  · rw [Int.compare_eq_gt.2 (by omega)]; simp; omega
theorem ord_le {x y a b : Nat} (hx : prt x = some a) (hy : prt y = some b) : (ord x y == some .lt || ord x y == some .eq) = decide (a ≤ b) := by
  rw [ord_lt hx hy, ord_same hx hy, Bool.eq_iff_iff]
  simp; omega
/- spans -/
abbrev Sp := Option (Nat × Nat)
noncomputable def spn (re im : Nat) : Sp :=
  match prt re, prt im with
  | some b, some e => if b ≤ e then some (b, e) else none
  | _, _ => none
def Good (o : Sp) : Prop := ∀ b e, o = some (b, e) → b ≤ e ∧ e ≤ never
theorem spn_some {re im b e : Nat} : spn re im = some (b, e) ↔ prt re = some b ∧ prt im = some e ∧ b ≤ e := by
  unfold spn
  cases h1 : prt re with
  | none => simp
  | some b' =>
    cases h2 : prt im with
    | none => simp
    | some e' =>
      by_cases h : b' ≤ e'
      · simp [h]; rintro rfl rfl; exact h
      · simp [h]; rintro rfl rfl; omega
theorem spn_good (re im : Nat) : Good (spn re im) := by
  intro b e h
  obtain ⟨_, h2, h3⟩ := spn_some.1 h
  exact ⟨h3, (part_iff.1 h2).1⟩
def mk (b e : Int) : Sp := if 0 ≤ b ∧ b ≤ e ∧ e ≤ 9007199254740992 then some (b.toNat, e.toNat) else none
theorem mk_good (b e : Int) : Good (mk b e) := by
  intro b' e' h
  unfold mk at h
  split at h
  · simp at h; unfold never; omega
  · cases h
theorem mk_nat {b e : Nat} (h1 : b ≤ e) (h2 : e ≤ never) : mk b e = some (b, e) := by
  unfold mk never at *
  rw [if_pos (by omega)]; simp
def re_ (o : Sp) : Nat := match o with | some (b, _) => double.nearest false b 0 | none => 0
def im_ (o : Sp) : Nat := match o with | some (_, e) => double.nearest false e 0 | none => 0
theorem part_nat {n : Nat} (h : n ≤ never) : prt (double.nearest false n 0) = some n := part_iff.2 (part_of n h)
theorem part_nought : prt 0 = some 0 := part_iff.2 part_zero
theorem spn_of {o : Sp} (h : Good o) : spn (re_ o) (im_ o) = some (o.getD (0, 0)) := by
  cases o with
  | none => exact spn_some.2 ⟨part_nought, part_nought, Nat.le_refl _⟩
  | some p =>
    obtain ⟨b, e⟩ := p
    obtain ⟨h1, h2⟩ := h b e rfl
    exact spn_some.2 ⟨part_nat (Nat.le_trans h1 h2), part_nat h2, h1⟩
theorem part_re {o : Sp} (h : Good o) : prt (re_ o) = some (o.getD (0, 0)).1 := (spn_some.1 (spn_of h)).1
theorem part_im {o : Sp} (h : Good o) : prt (im_ o) = some (o.getD (0, 0)).2 := (spn_some.1 (spn_of h)).2.1
def bg (o : Sp) : Nat := (o.getD (0, 0)).1
def en (o : Sp) : Nat := (o.getD (0, 0)).2
def bf (s t : Sp) : Bool := s.isSome && t.isSome && decide (en s < bg t)
def mts (s t : Sp) : Bool := s.isSome && t.isSome && !bf s t && !bf t s
def jn (s t : Sp) : Sp := if s.isSome && t.isSome then some (min (bg s) (bg t), max (en s) (en t)) else none
def mv (s : Sp) (k : Int) : Sp := if s.isSome && decide (-9007199254740992 ≤ k) && decide (k ≤ 9007199254740992) then mk (bg s + k) (if en s = never then never else en s + k) else none
theorem jn_good {s t : Sp} (hs : Good s) (ht : Good t) : Good (jn s t) := by
  intro b e h
  unfold jn at h
  cases s with
  | none => simp at h
  | some p =>
    cases t with
    | none => simp at h
    | some q =>
      have h1 := hs p.1 p.2 rfl
      have h2 := ht q.1 q.2 rfl
      simp [bg, en] at h
      omega
theorem mv_good (s : Sp) (k : Int) : Good (mv s k) := by
  unfold mv
  split
  · exact mk_good _ _
  · intro b e h; cases h
theorem floatOfInt_nat (n : Int) (h : 0 ≤ n) : floatOfInt .f64 n = double.nearest false n.toNat 0 := by
  show double.nearest (decide (n < 0)) n.natAbs 0 = _
  rw [decide_eq_false (by omega), show n.natAbs = n.toNat by omega]
end Fl
end Go.Proofs.Ytcfdndppkpjleaa
