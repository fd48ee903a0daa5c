/-
  Plain mathematics: how many numbers a set has, reckoned by adding up bits in fields of two, four and eight; and the least number of a set. Nothing of the program.
-/
import Derived.Test.YtcfdndppkpjleaaSetMath
import Derived.Lib.TrailingZeros
namespace Go.Proofs.Ytcfdndppkpjleaa.Sm

def m5 : Nat → Nat
  | 0 => 0
  | n + 1 => 85 + 256 * m5 n
def m3 : Nat → Nat
  | 0 => 0
  | n + 1 => 51 + 256 * m3 n
def mF : Nat → Nat
  | 0 => 0
  | n + 1 => 15 + 256 * mF n
def q1 (n x : Nat) : Nat := (x / 2 &&& m5 n) + (x &&& m5 n)
def q2 (n y : Nat) : Nat := (y / 4 &&& m3 n) + (y &&& m3 n)
def q3 (n y : Nat) : Nat := (y / 16 + y) &&& mF n
def c1 (b : Nat) : Nat := (b / 2 &&& 85) + (b &&& 85)
def c2 (b : Nat) : Nat := (b / 4 &&& 51) + (b &&& 51)
def c3 (b : Nat) : Nat := (b / 16 + b) &&& 15

theorem and_split (a b : Nat) : a &&& b = (a % 256 &&& b % 256) + 256 * (a / 256 &&& b / 256) := by
  have h1 : (a &&& b) % 2 ^ 8 = (a % 2 ^ 8) &&& (b % 2 ^ 8) := Nat.and_mod_two_pow
  have h2 : (a &&& b) / 2 ^ 8 = a / 2 ^ 8 &&& b / 2 ^ 8 := Nat.and_div_two_pow
  simp only [show (2 : Nat) ^ 8 = 256 from rfl] at h1 h2
  rw [← h1, ← h2]; omega
theorem and_split' (a A b B : Nat) (ha : a < 256) (hb : b < 256) : (a + 256 * A) &&& (b + 256 * B) = (a &&& b) + 256 * (A &&& B) := by
  rw [and_split, show (a + 256 * A) % 256 = a from by omega, show (b + 256 * B) % 256 = b from by omega, show (a + 256 * A) / 256 = A from by omega, show (b + 256 * B) / 256 = B from by omega]

theorem d1 : ∀ b < 256, ∀ c < 2, (b / 2 + 128 * c) &&& 85 = b / 2 &&& 85 := by decide +kernel
theorem d2 : ∀ b < 256, ∀ c < 4, (b / 4 + 64 * c) &&& 51 = b / 4 &&& 51 := by decide +kernel
theorem d3 : ∀ b < 69, ∀ c < 5, (b / 16 + 16 * c + b) &&& 15 = (b / 16 + b) &&& 15 := by decide +kernel
theorem e1 : ∀ b < 256, c1 b < 256 := by decide +kernel
theorem e2 : ∀ b < 256, c2 (c1 b) < 69 ∧ c2 (c1 b) % 16 < 5 := by decide +kernel
theorem e3 : ∀ b < 256, c3 (c2 (c1 b)) = ((List.range 8).filter fun i => b.testBit i).length := by decide +kernel
theorem e4 : ∀ b < 256, c3 (c2 (c1 b)) < 9 := by decide +kernel

theorem q1_succ (n b X : Nat) (hb : b < 256) : q1 (n + 1) (b + 256 * X) = c1 b + 256 * q1 n X := by
  unfold q1 c1
  rw [show m5 (n + 1) = 85 + 256 * m5 n from rfl, show (b + 256 * X) / 2 = (b / 2 + 128 * (X % 2)) + 256 * (X / 2) from by omega, and_split' _ _ _ _ (by omega) (by decide), and_split' _ _ _ _ hb (by decide), d1 b hb _ (by omega)]
  omega
theorem q2_succ (n b X : Nat) (hb : b < 256) : q2 (n + 1) (b + 256 * X) = c2 b + 256 * q2 n X := by
  unfold q2 c2
  rw [show m3 (n + 1) = 51 + 256 * m3 n from rfl, show (b + 256 * X) / 4 = (b / 4 + 64 * (X % 4)) + 256 * (X / 4) from by omega, and_split' _ _ _ _ (by omega) (by decide), and_split' _ _ _ _ hb (by decide), d2 b hb _ (by omega)]
  omega
theorem q3_succ (n b X : Nat) (hb : b < 69) (hX : X % 16 < 5) : q3 (n + 1) (b + 256 * X) = c3 b + 256 * q3 n X := by
  unfold q3 c3
  rw [show mF (n + 1) = 15 + 256 * mF n from rfl, show (b + 256 * X) / 16 + (b + 256 * X) = (b / 16 + 16 * (X % 16) + b) + 256 * (X / 16 + X) from by omega, and_split' _ _ _ _ (by omega) (by decide), d3 b hb _ hX]
def t12 (n x : Nat) : Nat := q2 n (q1 n x)
theorem t12_succ (n b X : Nat) (hb : b < 256) : t12 (n + 1) (b + 256 * X) = c2 (c1 b) + 256 * t12 n X := by
  unfold t12; rw [q1_succ _ _ _ hb, q2_succ _ _ _ (e1 b hb)]
theorem t12_low (n x : Nat) : t12 n x % 16 < 5 := by
  cases n with
  | zero => simp [t12, q1, q2, m5, m3]
  | succ n =>
    rw [show x = x % 256 + 256 * (x / 256) from by omega, t12_succ _ _ _ (by omega)]
    have := (e2 (x % 256) (by omega)).2
    omega
def t123 (n x : Nat) : Nat := q3 n (t12 n x)
theorem t123_succ (n x : Nat) : t123 (n + 1) x = c3 (c2 (c1 (x % 256))) + 256 * t123 n (x / 256) := by
  unfold t123
  rw [show t12 (n + 1) x = c2 (c1 (x % 256)) + 256 * t12 n (x / 256) from by
    have := t12_succ n (x % 256) (x / 256) (by omega)
    rwa [show x % 256 + 256 * (x / 256) = x from by omega] at this, q3_succ _ _ _ (e2 _ (by omega)).1 (t12_low _ _)]
def cnt (n x : Nat) : Nat := ((List.range (8 * n)).filter fun i => x.testBit i).length
theorem cnt_succ (n x : Nat) : cnt (n + 1) x = c3 (c2 (c1 (x % 256))) + cnt n (x / 256) := by
  unfold cnt
  rw [e3 _ (by omega), show 8 * (n + 1) = 8 + 8 * n from by omega, List.range_add, List.filter_append, List.length_append]
  congr 1
  · congr 1
    apply List.filter_congr
    intro i hi
    rw [List.mem_range] at hi
    rw [show (256 : Nat) = 2 ^ 8 from rfl, Nat.testBit_mod_two_pow]
    simp [hi]
  · rw [List.filter_map, List.length_map]
    congr 1
    apply List.filter_congr
    intro i _
    show x.testBit (8 + i) = _
    rw [show (256 : Nat) = 2 ^ 8 from rfl, Nat.testBit_div_two_pow, Nat.add_comm]
theorem m5_8 : m5 8 = 6148914691236517205 := by decide +kernel
theorem m3_8 : m3 8 = 3689348814741910323 := by decide +kernel
theorem mF_8 : mF 8 = 1085102592571150095 := by decide +kernel
def num8 (f0 f1 f2 f3 f4 f5 f6 f7 : Nat) : Nat := f0 + 256 * (f1 + 256 * (f2 + 256 * (f3 + 256 * (f4 + 256 * (f5 + 256 * (f6 + 256 * f7))))))
theorem num8_div1 (f0 f1 f2 f3 f4 f5 f6 f7 : Nat) (h0 : f0 < 256) : num8 f0 f1 f2 f3 f4 f5 f6 f7 / 256 = num8 f1 f2 f3 f4 f5 f6 f7 0 := by unfold num8; omega
theorem num8_div2 (f0 f1 f2 f3 f4 f5 f6 f7 : Nat) (h0 : f0 < 256) (h1 : f1 < 256) : num8 f0 f1 f2 f3 f4 f5 f6 f7 / 65536 = num8 f2 f3 f4 f5 f6 f7 0 0 := by
  rw [show (65536 : Nat) = 256 * 256 from rfl, ← Nat.div_div_eq_div_mul, num8_div1 _ _ _ _ _ _ _ _ h0, num8_div1 _ _ _ _ _ _ _ _ h1]
theorem num8_div4 (f0 f1 f2 f3 f4 f5 f6 f7 : Nat) (h0 : f0 < 256) (h1 : f1 < 256) (h2 : f2 < 256) (h3 : f3 < 256) : num8 f0 f1 f2 f3 f4 f5 f6 f7 / 4294967296 = num8 f4 f5 f6 f7 0 0 0 0 := by
  rw [show (4294967296 : Nat) = 65536 * 65536 from rfl, ← Nat.div_div_eq_div_mul, num8_div2 _ _ _ _ _ _ _ _ h0 h1, num8_div2 _ _ _ _ _ _ _ _ h2 h3]
theorem num8_add (f0 f1 f2 f3 f4 f5 f6 f7 g0 g1 g2 g3 g4 g5 g6 g7 : Nat) : num8 f0 f1 f2 f3 f4 f5 f6 f7 + num8 g0 g1 g2 g3 g4 g5 g6 g7 = num8 (f0 + g0) (f1 + g1) (f2 + g2) (f3 + g3) (f4 + g4) (f5 + g5) (f6 + g6) (f7 + g7) := by
  unfold num8; omega
theorem num8_lt (f0 f1 f2 f3 f4 f5 f6 f7 : Nat) (h0 : f0 < 128) (h1 : f1 < 128) (h2 : f2 < 128) (h3 : f3 < 128) (h4 : f4 < 128) (h5 : f5 < 128) (h6 : f6 < 128) (h7 : f7 < 128) : num8 f0 f1 f2 f3 f4 f5 f6 f7 < 9223372036854775808 := by unfold num8; omega
theorem num8_mod (f0 f1 f2 f3 f4 f5 f6 f7 : Nat) (h0 : f0 < 128) : num8 f0 f1 f2 f3 f4 f5 f6 f7 % 128 = f0 := by unfold num8; omega
theorem sum8 (f0 f1 f2 f3 f4 f5 f6 f7 y z1 z2 z3 : Nat) (h0 : f0 < 9) (h1 : f1 < 9) (h2 : f2 < 9) (h3 : f3 < 9) (h4 : f4 < 9) (h5 : f5 < 9) (h6 : f6 < 9) (h7 : f7 < 9)
    (hy : y = num8 f0 f1 f2 f3 f4 f5 f6 f7)
    (e1 : z1 = y + y / 256) (e2 : z2 = z1 + z1 / 65536) (e3 : z3 = z2 + z2 / 4294967296) :
    z1 < 9223372036854775808 ∧ z2 < 9223372036854775808 ∧ z3 < 9223372036854775808 ∧ z3 % 128 = f0 + f1 + f2 + f3 + f4 + f5 + f6 + f7 := by
  rw [hy, num8_div1 _ _ _ _ _ _ _ _ (by omega), num8_add] at e1
  rw [e1, num8_div2 _ _ _ _ _ _ _ _ (by omega) (by omega), num8_add] at e2
  rw [e2, num8_div4 _ _ _ _ _ _ _ _ (by omega) (by omega) (by omega) (by omega), num8_add] at e3
  refine ⟨?_, ?_, ?_, ?_⟩
  · rw [e1]; apply num8_lt <;> omega
  · rw [e2]; apply num8_lt <;> omega
  · rw [e3]; apply num8_lt <;> omega
  · rw [e3, num8_mod _ _ _ _ _ _ _ _ (by omega)]; omega
/-- the three steps, and then the three sums. -/
def z1 (x : Nat) : Nat := t123 8 x + t123 8 x / 256
def z2 (x : Nat) : Nat := z1 x + z1 x / 65536
def z3 (x : Nat) : Nat := z2 x + z2 x / 4294967296
theorem pop (x : Nat) : t123 8 x < 9223372036854775808 ∧ z1 x < 9223372036854775808 ∧ z2 x < 9223372036854775808 ∧ z3 x < 9223372036854775808 ∧ z3 x % 128 = count x := by
  have hc : count x = cnt 8 x := rfl
  have hl := fun k => e4 (k % 256) (Nat.mod_lt _ (by decide))
  have hz0 : ∀ k, t123 0 k = 0 := fun k => by simp [t123, q3, mF]
  have hz1 : ∀ k, cnt 0 k = 0 := fun k => by simp [cnt]
  have ht : t123 8 x = c3 (c2 (c1 (x % 256))) + 256 * (c3 (c2 (c1 (x / 256 % 256))) + 256 * (c3 (c2 (c1 (x / 256 / 256 % 256))) + 256 * (c3 (c2 (c1 (x / 256 / 256 / 256 % 256))) + 256 * (c3 (c2 (c1 (x / 256 / 256 / 256 / 256 % 256))) + 256 * (c3 (c2 (c1 (x / 256 / 256 / 256 / 256 / 256 % 256))) + 256 * (c3 (c2 (c1 (x / 256 / 256 / 256 / 256 / 256 / 256 % 256))) + 256 * (c3 (c2 (c1 (x / 256 / 256 / 256 / 256 / 256 / 256 / 256 % 256))) + 256 * (0)))))))) := by rw [t123_succ 7, t123_succ 6, t123_succ 5, t123_succ 4, t123_succ 3, t123_succ 2, t123_succ 1, t123_succ 0, hz0]
  have hk : cnt 8 x = c3 (c2 (c1 (x % 256))) + (c3 (c2 (c1 (x / 256 % 256))) + (c3 (c2 (c1 (x / 256 / 256 % 256))) + (c3 (c2 (c1 (x / 256 / 256 / 256 % 256))) + (c3 (c2 (c1 (x / 256 / 256 / 256 / 256 % 256))) + (c3 (c2 (c1 (x / 256 / 256 / 256 / 256 / 256 % 256))) + (c3 (c2 (c1 (x / 256 / 256 / 256 / 256 / 256 / 256 % 256))) + (c3 (c2 (c1 (x / 256 / 256 / 256 / 256 / 256 / 256 / 256 % 256))) + 0))))))) := by rw [cnt_succ 7, cnt_succ 6, cnt_succ 5, cnt_succ 4, cnt_succ 3, cnt_succ 2, cnt_succ 1, cnt_succ 0, hz1]
  rw [hc, hk]
  have := sum8 _ _ _ _ _ _ _ _ (t123 8 x) (z1 x) (z2 x) (z3 x) (hl x) (hl (x / 256)) (hl (x / 256 / 256)) (hl (x / 256 / 256 / 256)) (hl (x / 256 / 256 / 256 / 256)) (hl (x / 256 / 256 / 256 / 256 / 256)) (hl (x / 256 / 256 / 256 / 256 / 256 / 256)) (hl (x / 256 / 256 / 256 / 256 / 256 / 256 / 256)) (by rw [ht]; unfold num8; omega) rfl rfl rfl
  refine ⟨?_, this.1, this.2.1, this.2.2.1, by rw [this.2.2.2]; omega⟩
  exact Nat.lt_of_le_of_lt (by show t123 8 x ≤ t123 8 x + t123 8 x / 256; omega) this.1
theorem q1_lt (x : Nat) : q1 8 x < 18446744073709551616 := by
  have h1 : x / 2 &&& m5 8 ≤ m5 8 := Nat.and_le_right
  have h2 : x &&& m5 8 ≤ m5 8 := Nat.and_le_right
  rw [m5_8] at h1 h2
  unfold q1; rw [m5_8]; omega
theorem q2_lt (x : Nat) : q2 8 x < 9223372036854775808 := by
  have h1 : x / 4 &&& m3 8 ≤ m3 8 := Nat.and_le_right
  have h2 : x &&& m3 8 ≤ m3 8 := Nat.and_le_right
  rw [m3_8] at h1 h2
  unfold q2; rw [m3_8]; omega

/-- the least number. -/
def first (x : Nat) : Nat := Lib.ctz 64 x
theorem first_spec {x : Nat} (h0 : x ≠ 0) (h : x < 18446744073709551616) : first x < 64 ∧ x.testBit (first x) = true ∧ ∀ j, j < first x → x.testBit j = false := by
  unfold first Lib.ctz
  rw [if_neg h0]
  obtain ⟨m, hm, hk⟩ := Lib.ctzFrom_spec 64 x (by omega) (by simpa using h)
  generalize Lib.ctzFrom 64 x = k at *
  refine ⟨hk, ?_, ?_⟩
  · rw [hm, Nat.mul_comm, Nat.testBit_mul_two_pow]; simp
  · intro j hj
    rw [hm, Nat.mul_comm, Nat.testBit_mul_two_pow]; simp; omega
end Go.Proofs.Ytcfdndppkpjleaa.Sm
