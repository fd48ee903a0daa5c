/-
  Plain mathematics of 64-bit floats, over the model's own core: a finite word is a whole number of the least unit; whole numbers from 0 to 2^53 are exact; what is cut towards zero is a quotient.
-/
import Derived.Laws.FloatArith
namespace Go.Proofs.Ytcfdndppkpjleaa
open Ieee
namespace Fl
/-- as many of the least units as there are in one. -/
def E : Nat := 1074
theorem S_ex : ∃ s : Nat, s = 2 ^ E := ⟨_, rfl⟩
noncomputable def S : Nat := Classical.choose S_ex
theorem S_eq : S = 2 ^ E := Classical.choose_spec S_ex
theorem S_pos : 0 < S := by rw [S_eq]; exact Nat.two_pow_pos _
def never : Nat := 9007199254740992
/-- a sign put to a natural number. -/
def sg (s : Bool) (n : Nat) : Int := if s then -(n : Int) else (n : Int)
theorem signed_eq (s : Bool) (m u : Nat) : signed s m u = sg s (m * 2 ^ u) := by
  unfold signed sg; simp only [Nat.shiftLeft_eq]
theorem sg_mul (s : Bool) (m k : Nat) : sg s (m * k) = sg s m * (k : Int) := by
  unfold sg; cases s <;> simp [Int.neg_mul]
/-- x is a number of this sign, and of so many least units. -/
def Num (x : Nat) (s : Bool) (A : Nat) : Prop := ∃ m p, double.read x = .number s m p ∧ -1074 ≤ p ∧ A = m * 2 ^ (p + 1074).toNat
theorem least : double.leastPlace = -1074 := by decide
theorem bin : double.binade = 4503599627370496 := by decide
theorem sw : double.signWeight = 9223372036854775808 := by decide
theorem ir : double.infRung = 9218868437227405312 := by decide
theorem cases_ (x : Nat) : (∃ s t, double.read x = .nan s t) ∨ (∃ s, double.read x = .infinity s) ∨ ∃ s A, Num x s A := by
  have h : ∀ d, double.read x = d → (∃ s t, d = .nan s t) ∨ (∃ s, d = .infinity s) ∨ ∃ s m p, d = .number s m p ∧ -1074 ≤ p := by
    intro d hd
    unfold Format.read at hd
    dsimp only at hd
    split at hd
    · exact .inr (.inr ⟨_, _, _, hd.symm, by rw [least]; exact Int.le_refl _⟩)
    · split at hd
      · exact .inr (.inr ⟨_, _, _, hd.symm, by rw [least]; omega⟩)
      · split at hd
        · exact .inr (.inl ⟨_, hd.symm⟩)
        · exact .inl ⟨_, _, hd.symm⟩
  rcases h _ rfl with ⟨s, t, h⟩ | ⟨s, h⟩ | ⟨s, m, p, h, hp⟩
  · exact .inl ⟨s, t, h⟩
  · exact .inr (.inl ⟨s, h⟩)
  · exact .inr (.inr ⟨s, _, m, p, h, hp, rfl⟩)
theorem compare_mul (a b : Int) (k : Nat) (hk : 0 < k) : compare (a * (k : Int)) (b * (k : Int)) = compare a b := by
  have hk' : (0 : Int) < (k : Int) := by omega
  rcases Int.lt_trichotomy a b with h | h | h
  · rw [Int.compare_eq_lt.2 h, Int.compare_eq_lt.2 (Int.mul_lt_mul_of_pos_right h hk')]
  · subst h; rw [Int.compare_eq_eq.2 rfl, Int.compare_eq_eq.2 rfl]
  · rw [Int.compare_eq_gt.2 h, Int.compare_eq_gt.2 (Int.mul_lt_mul_of_pos_right h hk')]
theorem order_num {x y A B : Nat} {s t : Bool} (hx : Num x s A) (hy : Num y t B) : double.order x y = some (compare (sg s A) (sg t B)) := by
  obtain ⟨m, i, hx, hi, rfl⟩ := hx
  obtain ⟨n, j, hy, hj, rfl⟩ := hy
  unfold Format.order
  rw [hx, hy]
  show some (compare (signed s m (i - min i j).toNat) (signed t n (j - min i j).toNat)) = _
  rw [signed_eq, signed_eq]
  have e1 : (i + 1074).toNat = (i - min i j).toNat + (min i j + 1074).toNat := by omega
  have e2 : (j + 1074).toNat = (j - min i j).toNat + (min i j + 1074).toNat := by omega
  rw [e1, e2, Nat.pow_add, Nat.pow_add, ← Nat.mul_assoc, ← Nat.mul_assoc, sg_mul s _ (2 ^ (min i j + 1074).toNat), sg_mul t _ (2 ^ (min i j + 1074).toNat), compare_mul _ _ _ (Nat.two_pow_pos _)]
theorem cut_zero (s : Bool) (n d : Nat) : Toward.zero.cut s n d = n / 2 ^ d := by
  show n / (1 <<< min d (n.log2 + 2)) + 0 = _
  rw [Nat.shiftLeft_eq, Nat.one_mul, Nat.add_zero]
  rcases Nat.lt_or_ge (n.log2 + 2) d with h | h
  · rw [Nat.min_eq_right (by omega)]
    have hn : n < 2 ^ (n.log2 + 1) := Nat.lt_log2_self
    have h1 : n < 2 ^ (n.log2 + 2) := Nat.lt_trans hn (Nat.pow_lt_pow_right (by decide) (by omega))
    have h2 : n < 2 ^ d := Nat.lt_trans hn (Nat.pow_lt_pow_right (by decide) (by omega))
    rw [Nat.div_eq_of_lt h1, Nat.div_eq_of_lt h2]
  · rw [Nat.min_eq_left h]
theorem quot (m : Nat) (p : Int) (hp : -1074 ≤ p) : (m <<< p.toNat) / 2 ^ (-p).toNat = m * 2 ^ (p + 1074).toNat / S := by
  rw [Nat.shiftLeft_eq, S_eq]
  rcases Decidable.em (p < 0) with h | h
  · have e0 : p.toNat = 0 := by omega
    have e1 : E = (-p).toNat + (p + 1074).toNat := by unfold E; omega
    conv => rhs; rhs; rw [e1]
    rw [e0, Nat.pow_zero, Nat.mul_one, Nat.pow_add, Nat.mul_div_mul_right _ _ (Nat.two_pow_pos _)]
  · have e0 : (-p).toNat = 0 := by omega
    have e1 : (p + 1074).toNat = p.toNat + E := by unfold E; omega
    rw [e0, e1, Nat.pow_zero, Nat.div_one, Nat.pow_add, ← Nat.mul_assoc, Nat.mul_div_cancel _ (Nat.two_pow_pos _)]
theorem toInt_num {x A : Nat} {s : Bool} (hx : Num x s A) : (double.read x).toInt .zero = some (sg s (A / S)) := by
  obtain ⟨m, p, hx, hp, rfl⟩ := hx
  rw [hx]
  show some (signed s (Toward.zero.cut s (m <<< p.toNat) (-p).toNat) 0) = _
  rw [signed_eq, cut_zero, quot m p hp, Nat.pow_zero, Nat.mul_one]
/-- the word cut towards zero. -/
def trunc (x : Nat) : Nat := double.write ((double.read x).integral .zero)
theorem trunc_num {x A : Nat} {s : Bool} (hx : Num x s A) : trunc x = double.nearest s (A / S) 0 := by
  obtain ⟨m, p, hx, hp, rfl⟩ := hx
  unfold trunc
  rw [hx]
  show double.nearest s (Toward.zero.cut s (m <<< p.toNat) (-p).toNat) 0 = _
  rw [cut_zero, quot m p hp]
theorem read_word (s : Bool) (N k : Nat) (h0 : 4503599627370496 ≤ N) (h1 : N < 9007199254740992) (hk : k ≤ 2045) : double.read (double.word s (k * 4503599627370496 + N)) = .number s N ((k : Int) - 1074) := by
  have e : ∀ W : Nat, W = double.word s (k * 4503599627370496 + N) → W / 9223372036854775808 % 2 = s.toNat ∧ W % 9223372036854775808 = k * 4503599627370496 + N := by
    intro W hW
    unfold Format.word at hW
    rw [sw] at hW
    cases s <;> simp at hW <;> subst hW <;> constructor <;> simp <;> omega
  obtain ⟨e1, e2⟩ := e _ rfl
  unfold Format.read
  rw [sw, bin, ir, least]
  dsimp only
  rw [e1, e2]
  rw [if_neg (by omega), if_pos (by omega)]
  have a1 : (s.toNat == 1) = s := by cases s <;> rfl
  have a2 : 4503599627370496 + (k * 4503599627370496 + N) % 4503599627370496 = N := by omega
  have a3 : (k * 4503599627370496 + N) / 4503599627370496 - 1 = k := by omega
  rw [a1, a2, a3]
  congr 1
  all_goals omega
theorem cut_none (s : Bool) (n : Nat) : Toward.even.cut s n 0 = n := by
  unfold Toward.cut
  simp [Nat.mod_one]
theorem nearest_num (s : Bool) (n : Nat) (h : n ≤ 9007199254740992) : Num (double.nearest s n 0) s (n * S) := by
  rcases Nat.eq_zero_or_pos n with rfl | h0
  · cases s
    · exact ⟨0, -1074, by decide +kernel, by decide, by simp⟩
    · exact ⟨0, -1074, by decide +kernel, by decide, by simp⟩
  · rcases Nat.lt_or_ge n 9007199254740992 with hl | hg
    · have hL : n.log2 ≤ 52 := by
        have : n.log2 < 53 := (Nat.log2_lt (by omega)).2 (by simpa using hl)
        omega
      have h1 : n * 2 ^ (52 - n.log2) < 9007199254740992 := by
        have a : n < 2 ^ (n.log2 + 1) := Nat.lt_log2_self
        have b : n * 2 ^ (52 - n.log2) < 2 ^ (n.log2 + 1) * 2 ^ (52 - n.log2) := Nat.mul_lt_mul_of_pos_right a (Nat.two_pow_pos _)
        rw [← Nat.pow_add, show n.log2 + 1 + (52 - n.log2) = 53 by omega] at b
        simpa using b
      have h2 : 4503599627370496 ≤ n * 2 ^ (52 - n.log2) := by
        have a : 2 ^ n.log2 ≤ n := Nat.log2_self_le (by omega)
        have b : 2 ^ n.log2 * 2 ^ (52 - n.log2) ≤ n * 2 ^ (52 - n.log2) := Nat.mul_le_mul_right _ a
        rw [← Nat.pow_add, show n.log2 + (52 - n.log2) = 52 by omega] at b
        simpa using b
      have e : double.nearest s n 0 = double.word s ((n.log2 + 1022) * 4503599627370496 + n * 2 ^ (52 - n.log2)) := by
        unfold Format.nearest
        rw [if_neg (by omega), least, bin, ir]
        have hf : ((double.fractionBits : Nat) : Int) = 52 := rfl
        rw [hf]
        dsimp only
        have c1 : max ((0 : Int) + n.log2 - 52) (-1074) = (n.log2 : Int) - 52 := by omega
        rw [c1]
        have c2 : (0 - ((n.log2 : Int) - 52)).toNat = 52 - n.log2 := by omega
        have c3 : ((n.log2 : Int) - 52 - 0).toNat = 0 := by omega
        have c4 : ((n.log2 : Int) - 52 - -1074).toNat = n.log2 + 1022 := by omega
        rw [c2, c3, c4, cut_none, Nat.shiftLeft_eq, Nat.min_eq_left (by omega)]
      rw [e]
      refine ⟨_, _, read_word s _ _ h2 h1 (by omega), by omega, ?_⟩
      have e2 : (((n.log2 + 1022 : Nat) : Int) - 1074 + 1074).toNat = n.log2 + 1022 := by omega
      have e3 : 52 - n.log2 + (n.log2 + 1022) = E := by unfold E; omega
      rw [e2, Nat.mul_assoc, ← Nat.pow_add, e3, S_eq]
    · obtain rfl : n = 9007199254740992 := by omega
      have e : double.nearest s 9007199254740992 0 = double.word s (1075 * 4503599627370496 + 4503599627370496) := by cases s <;> decide +kernel
      rw [e]
      refine ⟨_, _, read_word s _ _ (by decide) (by decide) (by decide), by decide, ?_⟩
      rw [S_eq]
      have e2 : (((1075 : Nat) : Int) - 1074 + 1074).toNat = E + 1 := by unfold E; omega
      rw [e2, Nat.pow_succ]
      generalize 2 ^ E = z
      omega
end Fl
end Go.Proofs.Ytcfdndppkpjleaa
