/-
  Plain mathematics of values and their texts: which values there may be, their texts, and that a text tells its value.
-/
import Derived.Lib.ParseIntBTie
import Derived.Lib.ItoaMem
import Derived.Lib.Strings
import Derived.RowKit
namespace Go.Proofs.YtpfoehcgcofgpaaDoor
namespace Va
open Go.Lib Go.RowKit
/-- a number of 64 bits. -/
def i64p (n : Int) : Prop := -9223372036854775808 ≤ n ∧ n ≤ 9223372036854775807
/-! Digits. -/
theorem dec_step {u : Nat} (h : ¬ u < 10) : decDigits u = decDigits (u / 10) ++ [UInt8.ofNat (48 + u % 10)] := by rw [decDigits, dif_neg h]
theorem dig_nat {d : Nat} (h : d < 10) : (UInt8.ofNat (48 + d)).toNat = 48 + d := by
  rw [UInt8.toNat_ofNat']; omega
theorem dec_digit (u : Nat) : ∀ c ∈ decDigits u, 48 ≤ c.toNat ∧ c.toNat ≤ 57 := by
  induction u using Nat.strongRecOn with
  | _ u ih =>
    intro c hc
    by_cases h : u < 10
    · rw [decDigits_one h] at hc
      obtain rfl := List.mem_singleton.1 hc
      rw [dig_nat h]; omega
    · rw [dec_step h] at hc
      rcases List.mem_append.1 hc with hc | hc
      · exact ih (u / 10) (by omega) c hc
      · obtain rfl := List.mem_singleton.1 hc
        rw [dig_nat (by omega)]; omega
theorem dec_head (u : Nat) : ∃ c r, decDigits u = c :: r ∧ 48 ≤ c.toNat ∧ c.toNat ≤ 57 := by
  cases h : decDigits u with
  | nil => have := decDigits_length u; have := nDigits_pos u; rw [h] at *; simp at *; omega
  | cons c r => exact ⟨c, r, rfl, dec_digit u c (by rw [h]; simp)⟩
theorem parse_snoc (l : List UInt8) (c : UInt8) : ∀ a v, parseUint10 a l = .ok v → parseUint10 a (l ++ [c]) = parseUint10 v [c] := by
  induction l with
  | nil => intro a v h; simp only [parseUint10] at h; injection h with h; subst h; rfl
  | cons d r ih =>
    intro a v h
    simp only [parseUint10, List.cons_append] at h ⊢
    split at h
    · rename_i hd
      rw [if_pos hd]
      split at h
      · cases h
      · rename_i ha
        rw [if_neg ha]
        split at h
        · cases h
        · rename_i hb
          rw [if_neg hb]
          have := ih _ _ h
          rw [this]; rfl
    · cases h
theorem parse_dec (u : Nat) : u < 18446744073709551616 → parseUint10 0 (decDigits u) = .ok u := by
  induction u using Nat.strongRecOn with
  | _ u ih =>
    intro hu
    by_cases h : u < 10
    · rw [decDigits_one h]
      simp only [parseUint10]
      rw [dig_nat h, if_pos (by omega), if_neg (by omega), if_neg (by omega)]
      congr 1; omega
    · rw [dec_step h, parse_snoc _ _ _ _ (ih (u / 10) (by omega) (by omega))]
      simp only [parseUint10]
      rw [dig_nat (by omega), if_pos (by omega), if_neg (by omega), if_neg (by omega)]
      congr 1; omega
theorem mag_dec {u : Nat} (h : u < 18446744073709551616) : parseMag (decDigits u) = .ok u := by
  unfold parseMag
  obtain ⟨c, r, e, _⟩ := dec_head u
  rw [if_neg (by rw [e]; simp)]
  exact parse_dec u h
theorem int_cases {n : Int} : (∃ u : Nat, n = u) ∨ ∃ u : Nat, 1 ≤ u ∧ n = -(u : Int) := by
  by_cases h : 0 ≤ n
  · exact .inl ⟨n.toNat, by omega⟩
  · exact .inr ⟨n.natAbs, by omega, by omega⟩
/-- a number comes back from its digits. -/
theorem back {n : Int} (hn : i64p n) : parseIntB 64 (itoa n) = .ok n := by
  rw [parseIntB_64]
  rcases int_cases (n := n) with ⟨u, rfl⟩ | ⟨u, hu, rfl⟩
  · rw [itoa_nonneg]
    have hm := mag_dec (u := u) (by have := hn.2; omega)
    obtain ⟨c, r, e, h1, h2⟩ := dec_head u
    rw [e] at hm ⊢
    simp only [atoiAll]
    rw [if_neg (by omega), hm]
    have := hn.2
    simp only
    rw [if_neg (by omega), if_neg (by omega), if_neg (by omega)]
  · rw [itoa_neg u hu]
    have hm := mag_dec (u := u) (by have := hn.1; omega)
    simp only [atoiAll]
    rw [if_pos (by decide), hm]
    have := hn.1
    simp only
    rw [if_neg (by simp), if_neg (by omega), if_pos (by decide)]
theorem itoa_inj {a b : Int} (ha : i64p a) (hb : i64p b) (h : itoa a = itoa b) : a = b := by
  have h1 := back ha
  rw [h, back hb] at h1
  injection h1 with h1
  exact h1.symm
theorem dig_le : ∀ (k u : Nat), u < 10 ^ (k + 1) → nDigits u ≤ k + 1
  | 0, u, h => by rw [nDigits_small (by simpa using h)]; omega
  | k + 1, u, h => by
    by_cases hu : u < 10
    · rw [nDigits_small hu]; omega
    · rw [nDigits_big hu]
      have := dig_le k (u / 10) (by rw [Nat.pow_succ] at h; omega)
      omega
theorem pow19 : (10 : Nat) ^ (18 + 1) = 10000000000000000000 := by decide
theorem dig19 {u : Nat} (h : u < 10000000000000000000) : nDigits u ≤ 19 := dig_le 18 u (by rw [pow19]; exact h)
theorem itoa_len {n : Int} (hn : i64p n) : (itoa n).length ≤ 20 := by
  rcases int_cases (n := n) with ⟨u, rfl⟩ | ⟨u, hu, rfl⟩
  · rw [itoa_nonneg, decDigits_length]
    have := dig19 (u := u) (by have := hn.2; omega)
    omega
  · rw [itoa_neg u hu, List.length_cons, decDigits_length]
    have := dig19 (u := u) (by have := hn.1; omega)
    omega
/-- the first byte of a number's text. -/
theorem itoa_head (n : Int) : ∃ c r, itoa n = c :: r ∧ (n < 0 → c = 45) ∧ (0 ≤ n → 48 ≤ c.toNat ∧ c.toNat ≤ 57) := by
  rcases int_cases (n := n) with ⟨u, rfl⟩ | ⟨u, hu, rfl⟩
  · rw [itoa_nonneg]
    obtain ⟨c, r, e, h⟩ := dec_head u
    exact ⟨c, r, e, fun h => by omega, fun _ => h⟩
  · rw [itoa_neg u hu]
    exact ⟨45, _, rfl, fun _ => rfl, fun h => by omega⟩
theorem itoa_ne {n : Int} : itoa n ≠ [] := by obtain ⟨c, r, e, _⟩ := itoa_head n; rw [e]; simp
theorem itoa_first {n : Int} {c : UInt8} {r : List UInt8} (h : itoa n = c :: r) : c = 45 ∨ 48 ≤ c.toNat ∧ c.toNat ≤ 57 := by
  obtain ⟨d, t, e, h1, h2⟩ := itoa_head n
  rw [e] at h
  injection h with h _
  subst h
  by_cases hn : n < 0
  · exact .inl (h1 hn)
  · exact .inr (h2 (by omega))
/-! The document's way: digits one behind the other, whatever they are. -/
def dig1 (n : Int) (c : UInt8) : Int := wrap64 (wrap64 (wrap64 (n * 10) + c.toNat) - 48)
def digs (n : Int) (l : List UInt8) : Int := l.foldl dig1 n
theorem digs_snoc (n : Int) (l : List UInt8) (c : UInt8) : digs n (l ++ [c]) = dig1 (digs n l) c := by
  unfold digs; rw [List.foldl_append]; rfl
theorem digs_one (n : Int) (c : UInt8) : digs n [c] = dig1 n c := by unfold digs; rw [List.foldl_cons, List.foldl_nil]
theorem wrap_shift (a k : Int) : wrap64 (a + k * 18446744073709551616) = wrap64 a := by
  unfold wrap64
  rw [Int.add_right_comm, Int.add_mul_emod_self_right]
theorem wrap_is (a : Int) : ∃ k, wrap64 a = a + k * 18446744073709551616 := ⟨-((a + 9223372036854775808) / 18446744073709551616), by unfold wrap64; omega⟩
theorem wrap_add (a b : Int) : wrap64 (wrap64 a + b) = wrap64 (a + b) := by
  obtain ⟨k, e⟩ := wrap_is a
  rw [e, Int.add_right_comm, wrap_shift]
theorem wrap_sub (a b : Int) : wrap64 (wrap64 a - b) = wrap64 (a - b) := by
  rw [Int.sub_eq_add_neg, wrap_add, ← Int.sub_eq_add_neg]
theorem wrap_mul (a b : Int) : wrap64 (wrap64 a * b) = wrap64 (a * b) := by
  obtain ⟨k, e⟩ := wrap_is a
  rw [e, Int.add_mul, Int.mul_assoc k, Int.mul_comm 18446744073709551616 b, ← Int.mul_assoc, wrap_shift]
theorem digs_dec (u : Nat) : digs 0 (decDigits u) = wrap64 u := by
  induction u using Nat.strongRecOn with
  | _ u ih =>
    by_cases h : u < 10
    · rw [decDigits_one h, digs_one, dig1, dig_nat h, wrap_add, wrap_sub, Int.zero_mul]
      rw [show (0 : Int) + ((48 + u : Nat) : Int) - 48 = u by omega]
    · rw [dec_step h, digs_snoc, ih (u / 10) (by omega), dig1, dig_nat (by omega), wrap_mul, wrap_add, wrap_sub]
      rw [show ((u / 10 : Nat) : Int) * 10 + ((48 + u % 10 : Nat) : Int) - 48 = u by omega]
theorem wrap_in {n : Int} (h : i64p n) : wrap64 n = n := by unfold i64p at h; unfold wrap64; omega
theorem wrap_neg (u : Nat) (h : i64p (-(u : Int))) : wrap64 (-(wrap64 u)) = -(u : Int) := by unfold i64p at h; unfold wrap64; omega
/-! Values. -/
/-- which values there may be. -/
def right (k n : Int) : Bool := if k = 0 then decide (n = 0) else if k = 1 then true else if k = 2 then decide (0 ≤ n) && decide (n < 64) else false
/-- a value's text. -/
def text (k n : Int) : List UInt8 := if right k n = true then (if k = 0 then [110, 105, 108] else if k = 2 then 64 :: itoa n else itoa n) else []
theorem right_cases {k n : Int} (h : right k n = true) : k = 0 ∧ n = 0 ∨ k = 1 ∨ k = 2 ∧ 0 ≤ n ∧ n < 64 := by
  unfold right at h
  split at h
  · exact .inl ⟨by assumption, by simpa using h⟩
  split at h
  · exact .inr (.inl (by assumption))
  split at h
  · exact .inr (.inr ⟨by assumption, by simpa using h⟩)
  · cases h
theorem text_nil : text 0 0 = [110, 105, 108] := by decide
theorem text_int (n : Int) : text 1 n = itoa n := rfl
theorem text_ref {n : Int} (h0 : 0 ≤ n) (h1 : n < 64) : text 2 n = 64 :: itoa n := by
  have : right 2 n = true := by unfold right; simp [h0, h1]
  unfold text; rw [if_pos this]; rfl
theorem text_wrong {k n : Int} (h : right k n = false) : text k n = [] := by unfold text; rw [h]; rfl
theorem text_ne {k n : Int} (h : right k n = true) : text k n ≠ [] := by
  rcases right_cases h with ⟨rfl, rfl⟩ | rfl | ⟨rfl, h0, h1⟩
  · rw [text_nil]; simp
  · rw [text_int]; exact itoa_ne
  · rw [text_ref h0 h1]; simp
theorem right_of_text {k n : Int} (h : text k n ≠ []) : right k n = true := by
  cases hr : right k n
  · exact absurd (text_wrong hr) h
  · rfl
/-- what the program takes a text for: its kind, and its digits. -/
def kindOf (l : List UInt8) : Int := if hasPrefix l [64] then 2 else 1
def numOf (l : List UInt8) : List UInt8 := trimPrefix l [64]
/-- what the document takes a text for. -/
def cand : List UInt8 → Int × Int
  | [] => (0, 0)
  | c :: r => if c = 64 then (2, digs 0 r) else if c = 45 then (1, wrap64 (-(digs 0 r))) else if c :: r = [110, 105, 108] then (0, 0) else (1, digs 0 (c :: r))
theorem numOf_at (r : List UInt8) : numOf (64 :: r) = r ∧ kindOf (64 :: r) = 2 := by
  constructor
  · unfold numOf; simp [trimPrefix, hasPrefix]
  · unfold kindOf; simp [hasPrefix]
theorem numOf_int {n : Int} : numOf (itoa n) = itoa n ∧ kindOf (itoa n) = 1 := by
  obtain ⟨c, r, e, _⟩ := itoa_head n
  have hc : c ≠ 64 := by
    intro h; subst h
    rcases itoa_first e with h | h
    · cases h
    · exact absurd h.2 (by decide)
  rw [e]
  constructor
  · unfold numOf; simp [trimPrefix, hasPrefix, Ne.symm hc]
  · unfold kindOf; simp [hasPrefix, Ne.symm hc]
theorem itoa_not_nil {n : Int} : itoa n ≠ [110, 105, 108] := by
  intro h
  rcases itoa_first h with h | h
  · cases h
  · exact absurd h.2 (by decide)
theorem text_inj {k n k' n' : Int} (hn : i64p n) (hn' : i64p n') (h : right k n = true) (h' : right k' n' = true) (e : text k n = text k' n') : k = k' ∧ n = n' := by
  have key : ∀ {k n : Int}, i64p n → right k n = true → (text k n = [110, 105, 108] ↔ k = 0) ∧ (k ≠ 0 → kindOf (text k n) = k ∧ parseIntB 64 (numOf (text k n)) = .ok n) := by
    intro k n hn h
    rcases right_cases h with ⟨rfl, rfl⟩ | rfl | ⟨rfl, h0, h1⟩
    · exact ⟨⟨fun _ => rfl, fun _ => text_nil⟩, fun h => absurd rfl h⟩
    · rw [text_int]
      refine ⟨⟨fun h => absurd h itoa_not_nil, fun h => (by cases h)⟩, fun _ => ⟨numOf_int.2, ?_⟩⟩
      rw [numOf_int.1]; exact back hn
    · rw [text_ref h0 h1]
      refine ⟨⟨fun h => (by cases h), fun h => (by cases h)⟩, fun _ => ⟨(numOf_at _).2, ?_⟩⟩
      rw [(numOf_at _).1]; exact back hn
  obtain ⟨a1, a2⟩ := key hn h
  obtain ⟨b1, b2⟩ := key hn' h'
  by_cases hk : k = 0
  · have hk' : k' = 0 := b1.1 (e ▸ a1.2 hk)
    subst hk; subst hk'
    rcases right_cases h with ⟨_, rfl⟩ | h | ⟨h, _⟩
    · rcases right_cases h' with ⟨_, rfl⟩ | h | ⟨h, _⟩
      · exact ⟨rfl, rfl⟩
      · cases h
      · cases h
    · cases h
    · cases h
  · have hk' : k' ≠ 0 := fun h => hk (a1.1 (e ▸ b1.2 h))
    obtain ⟨p1, p2⟩ := a2 hk
    obtain ⟨q1, q2⟩ := b2 hk'
    rw [e] at p1 p2
    rw [p1] at q1
    rw [p2] at q2
    injection q2 with q2
    exact ⟨q1, q2⟩
/-- what Parse answers: the value whose text it is, or that there is none. -/
def Parsed (l : List UInt8) (k n e : Int) : Prop := i64p n ∧ (e = 0 ∧ right k n = true ∧ text k n = l ∨ e = 8 ∧ k = 0 ∧ n = 0 ∧ ∀ k' n', i64p n' → right k' n' = true → text k' n' ≠ l)
theorem Parsed.same {l : List UInt8} {k n e k' n' e' : Int} (h : Parsed l k n e) (h' : Parsed l k' n' e') : k = k' ∧ n = n' ∧ e = e' := by
  obtain ⟨hn, h⟩ := h
  obtain ⟨hn', h'⟩ := h'
  rcases h with ⟨rfl, h1, h2⟩ | ⟨rfl, rfl, rfl, h1⟩ <;> rcases h' with ⟨rfl, g1, g2⟩ | ⟨rfl, rfl, rfl, g1⟩
  · obtain ⟨a, b⟩ := text_inj hn hn' h1 g1 (h2.trans g2.symm)
    exact ⟨a, b, rfl⟩
  · exact absurd h2 (g1 _ _ hn h1)
  · exact absurd g2 (h1 _ _ hn' g1)
  · exact ⟨rfl, rfl, rfl⟩
/-- the program's way: whatever is taken, it is held against its own text. -/
theorem parsed_of_nil : Parsed [110, 105, 108] 0 0 0 := ⟨by unfold i64p; omega, .inl ⟨rfl, by decide, by decide⟩⟩
theorem parsed_long {l : List UInt8} (h : 20 < l.length) : Parsed l 0 0 8 := by
  refine ⟨by unfold i64p; omega, .inr ⟨rfl, rfl, rfl, fun k n hn hr e => ?_⟩⟩
  subst e
  rcases right_cases hr with ⟨rfl, rfl⟩ | rfl | ⟨rfl, h0, h1⟩
  · rw [text_nil] at h; simp at h
  · rw [text_int] at h; have := itoa_len hn; omega
  · rw [text_ref h0 h1, List.length_cons] at h
    obtain ⟨u, rfl⟩ := Int.eq_ofNat_of_zero_le h0
    rw [itoa_nonneg, decDigits_length] at h
    have := dig_le 1 u (by simp; omega)
    omega
theorem parsed_of {l : List UInt8} {v : Int} (hl : l ≠ [110, 105, 108]) (hp : parseIntB 64 (numOf l) = .ok v) (hv : i64p v) : (text (kindOf l) v = l → l ≠ [] → Parsed l (kindOf l) v 0) ∧ (text (kindOf l) v ≠ l → Parsed l 0 0 8) := by
  refine ⟨fun e hne => ⟨hv, .inl ⟨rfl, right_of_text (by rw [e]; exact hne), e⟩⟩, fun hne => ⟨by unfold i64p; omega, .inr ⟨rfl, rfl, rfl, fun k n hn hr e => ?_⟩⟩⟩
  subst e
  rcases right_cases hr with ⟨rfl, rfl⟩ | rfl | ⟨rfl, h0, h1⟩
  · exact hl text_nil
  · rw [text_int] at *
    rw [numOf_int.1, back hn] at hp
    injection hp with hp
    subst hp
    rw [numOf_int.2, text_int] at hne
    exact hne rfl
  · rw [text_ref h0 h1] at *
    rw [(numOf_at _).1, back hn] at hp
    injection hp with hp
    subst hp
    rw [(numOf_at _).2, text_ref h0 h1] at hne
    exact hne rfl
theorem parsed_no {l : List UInt8} (hl : l ≠ [110, 105, 108]) (hp : ∀ v, parseIntB 64 (numOf l) ≠ .ok v) : Parsed l 0 0 8 := by
  refine ⟨by unfold i64p; omega, .inr ⟨rfl, rfl, rfl, fun k n hn hr e => ?_⟩⟩
  subst e
  rcases right_cases hr with ⟨rfl, rfl⟩ | rfl | ⟨rfl, h0, h1⟩
  · exact hl text_nil
  · rw [text_int, numOf_int.1] at hp; exact hp _ (back hn)
  · rw [text_ref h0 h1, (numOf_at _).1] at hp; exact hp _ (back hn)
/-- the document's way. -/
theorem cand_text {k n : Int} (hn : i64p n) (hr : right k n = true) : cand (text k n) = (k, n) := by
  rcases right_cases hr with ⟨rfl, rfl⟩ | rfl | ⟨rfl, h0, h1⟩
  · decide
  · rw [text_int]
    rcases int_cases (n := n) with ⟨u, rfl⟩ | ⟨u, hu, rfl⟩
    · have hne : itoa (u : Int) ≠ [110, 105, 108] := itoa_not_nil
      rw [itoa_nonneg] at hne ⊢
      have hd := digs_dec u
      obtain ⟨c, r, e, h1, h2⟩ := dec_head u
      rw [e] at hne hd ⊢
      have c1 : c ≠ 64 := by intro h; subst h; exact absurd h2 (by decide)
      have c2 : c ≠ 45 := by intro h; subst h; exact absurd h1 (by decide)
      show (if c = 64 then _ else _) = _
      rw [if_neg c1, if_neg c2, if_neg hne, hd, wrap_in hn]
    · rw [itoa_neg u hu]
      show (1, wrap64 (-(digs 0 (decDigits u)))) = _
      rw [digs_dec, wrap_neg u hn]
  · rw [text_ref h0 h1]
    obtain ⟨u, rfl⟩ := Int.eq_ofNat_of_zero_le h0
    show (2, digs 0 (itoa _)) = _
    rw [itoa_nonneg, digs_dec, wrap_in hn]
theorem wrap_i64 (n : Int) : i64p (wrap64 n) := by unfold i64p wrap64; omega
theorem digs_i64 {n : Int} (hn : i64p n) (l : List UInt8) : i64p (digs n l) := by
  induction l generalizing n with
  | nil => exact hn
  | cons c r ih => exact ih (wrap_i64 _)
theorem nought64 : i64p 0 := by unfold i64p; omega
theorem cand_i64 (l : List UInt8) : i64p (cand l).2 := by
  have h : ∀ x : Int × Int, (x.2 = 0 ∨ (∃ r, x.2 = digs 0 r) ∨ ∃ z, x.2 = wrap64 z) → i64p x.2 := by
    intro x hx
    rcases hx with h | ⟨r, h⟩ | ⟨z, h⟩
    · rw [h]; exact nought64
    · rw [h]; exact digs_i64 nought64 r
    · rw [h]; exact wrap_i64 z
  refine h _ ?_
  unfold cand
  split
  · exact .inl rfl
  · split
    · exact .inr (.inl ⟨_, rfl⟩)
    split
    · rename_i r _ _
      exact .inr (.inr ⟨-(digs 0 r), by generalize wrap64 (-(digs 0 r)) = z; rfl⟩)
    split
    · exact .inl rfl
    · rename_i c r _ _ _
      exact .inr (.inl ⟨c :: r, by generalize digs 0 (c :: r) = z; rfl⟩)
theorem parsed_cand {l : List UInt8} (hl : l ≠ []) : (text (cand l).1 (cand l).2 = l → Parsed l (cand l).1 (cand l).2 0) ∧ (text (cand l).1 (cand l).2 ≠ l → Parsed l 0 0 8) := by
  refine ⟨fun e => ⟨cand_i64 l, .inl ⟨rfl, right_of_text (by rw [e]; exact hl), e⟩⟩, fun hne => ⟨by unfold i64p; omega, .inr ⟨rfl, rfl, rfl, fun k n hn hr e => ?_⟩⟩⟩
  subst e
  rw [cand_text hn hr] at hne
  exact hne rfl
theorem parsed_empty : Parsed [] 0 0 8 := ⟨by unfold i64p; omega, .inr ⟨rfl, rfl, rfl, fun _ _ _ hr => text_ne hr⟩⟩
end Va
end Go.Proofs.YtpfoehcgcofgpaaDoor
