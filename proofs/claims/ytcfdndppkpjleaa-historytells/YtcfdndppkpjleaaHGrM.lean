/-
  The graph of a row of courses, in plain mathematics.
-/
import Derived.Test.YtcfdndppkpjleaaHMath
import Derived.Test.YtcfdndppkpjleaaMatMath
namespace Go.Proofs.Ytcfdndppkpjleaa.Hi
def left (c : Cr) (x : Int) : Bool := c.com && (c.wr x).isSome
/-- committed behind another one with a write of the same variable. -/
def OvW (c d : Cr) : Prop := d.e < c.e ∧ ∃ x, left c x = true ∧ left d x = true
/-- of the first k the last one that was committed with a write of x ahead of n. -/
def srcTo (l : List Cr) (x : Int) (n : Nat) : Nat → Int
  | 0 => -1
  | k + 1 => match l[k]? with
    | some c => if left c x = true ∧ c.e ≤ n then (if srcTo l x n k = -1 then (k : Int) else match l[(srcTo l x n k).toNat]? with
        | some d => if d.e < c.e then (k : Int) else srcTo l x n k
        | none => srcTo l x n k) else srcTo l x n k
    | none => srcTo l x n k
def src (l : List Cr) (x : Int) (n : Nat) : Int := srcTo l x n l.length
/-- what is known of the one that was found. -/
structure Hit (l : List Cr) (x : Int) (n k : Nat) (a : Nat) (c : Cr) : Prop where
  at_ : l[a]? = some c
  lt : a < k
  left : left c x = true
  le : c.e ≤ n
  top : ∀ (i : Nat) (d : Cr), i < k → l[i]? = some d → Hi.left d x = true → d.e ≤ n → d.e ≤ c.e
theorem srcTo_spec (l : List Cr) (x : Int) (n : Nat) : ∀ k, k ≤ l.length → (srcTo l x n k = -1 ∧ ∀ (i : Nat) (d : Cr), i < k → l[i]? = some d → ¬ (left d x = true ∧ d.e ≤ n)) ∨ ∃ (a : Nat) (c : Cr), srcTo l x n k = (a : Int) ∧ Hit l x n k a c
  | 0, _ => .inl ⟨rfl, fun i d h => by omega⟩
  | k + 1, hk => by
    have hc : l[k]? = some l[k] := List.getElem?_eq_getElem (by omega)
    generalize l[k] = c at hc
    have hn : ∀ i : Nat, i < k + 1 → i < k ∨ i = k := fun i h => by omega
    rcases srcTo_spec l x n k (by omega) with ⟨h0, h1⟩ | ⟨a, d, h0, h1⟩
    · by_cases h : left c x = true ∧ c.e ≤ n
      · refine .inr ⟨k, c, ?_, hc, Nat.lt_succ_self _, h.1, h.2, fun i d hi hd hl he => ?_⟩
        · unfold srcTo; rw [hc]; simp only; rw [if_pos h, if_pos h0]
        · rcases hn i hi with hi | rfl
          · exact absurd ⟨hl, he⟩ (h1 i d hi hd)
          · rw [hc] at hd; rw [Option.some.inj hd]; exact Nat.le_refl _
      · refine .inl ⟨?_, fun i d hi hd => ?_⟩
        · unfold srcTo; rw [hc]; simp only; rw [if_neg h]; exact h0
        · rcases hn i hi with hi | rfl
          · exact h1 i d hi hd
          · rw [hc] at hd; rw [← Option.some.inj hd]; exact h
    · have hne : ¬ srcTo l x n k = -1 := by omega
      have ha : l[(srcTo l x n k).toNat]? = some d := by rw [h0]; exact h1.at_
      by_cases h : left c x = true ∧ c.e ≤ n
      · by_cases hlt : d.e < c.e
        · refine .inr ⟨k, c, ?_, hc, Nat.lt_succ_self _, h.1, h.2, fun i d' hi hd hl he => ?_⟩
          · unfold srcTo; rw [hc]; simp only; rw [if_pos h, if_neg hne, ha]; simp only; rw [if_pos hlt]
          · rcases hn i hi with hi | rfl
            · have := h1.top i d' hi hd hl he; omega
            · rw [hc] at hd; rw [Option.some.inj hd]; exact Nat.le_refl _
        · refine .inr ⟨a, d, ?_, h1.at_, Nat.lt_succ_of_lt h1.lt, h1.left, h1.le, fun i d' hi hd hl he => ?_⟩
          · unfold srcTo; rw [hc]; simp only; rw [if_pos h, if_neg hne, ha]; simp only; rw [if_neg hlt]; exact h0
          · rcases hn i hi with hi | rfl
            · exact h1.top i d' hi hd hl he
            · rw [hc] at hd; rw [← Option.some.inj hd]; omega
      · refine .inr ⟨a, d, ?_, h1.at_, Nat.lt_succ_of_lt h1.lt, h1.left, h1.le, fun i d' hi hd hl he => ?_⟩
        · unfold srcTo; rw [hc]; simp only; rw [if_neg h]; exact h0
        · rcases hn i hi with hi | rfl
          · exact h1.top i d' hi hd hl he
          · rw [hc] at hd; rw [← Option.some.inj hd] at hl he; exact absurd ⟨hl, he⟩ h
/-- the edges that a read of b brings. -/
def Ed (l : List Cr) (b : Nat) (x : Int) (n : Nat) (i j : Nat) : Prop := (j = b ∧ (i : Int) = src l x n ∧ i ≠ b) ∨ (i = b ∧ j ≠ b ∧ ∃ c, l[j]? = some c ∧ left c x = true ∧ n < c.e)
/-- the edges of b. -/
def Eb (l : List Cr) (b : Nat) (i j : Nat) : Prop := ∃ c, l[b]? = some c ∧ ((j = b ∧ i ≠ b ∧ ∃ d, l[i]? = some d ∧ (d.e < c.b ∨ OvW c d)) ∨ ∃ x n, c.rd x = some n ∧ Ed l b x n i j)
def Ge (l : List Cr) (i j : Nat) : Prop := ∃ b, Eb l b i j
/-- the matrix has just these edges. -/
structure Is (m : Mm.Gr) (G : Nat → Nat → Prop) : Prop where
  ok : Mm.Ok m
  is : ∀ i j, i < 32 → ((m i).testBit j = true ↔ G i j)
theorem Is.congr {m : Mm.Gr} {G H : Nat → Nat → Prop} (h : Is m G) (e : ∀ i j, i < 32 → (G i j ↔ H i j)) : Is m H := ⟨h.ok, fun i j hi => (h.is i j hi).trans (e i j hi)⟩
theorem Is.zero : Is (fun _ => 0) (fun _ _ => False) := ⟨fun _ _ => by decide, fun i j _ => by simp⟩
theorem Is.put {m : Mm.Gr} {G : Nat → Nat → Prop} (h : Is m G) {a b : Nat} (hb : b < 32) : Is (Mm.put m a b) (fun i j => G i j ∨ (i = a ∧ j = b)) := by
  refine ⟨Mm.put_ok a b h.ok, fun i j hi => ?_⟩
  unfold Mm.put
  by_cases e : i = a
  · rw [if_pos e, Sm.add_test, Bool.or_eq_true, decide_eq_true_eq, h.is i j hi]
    constructor
    · rintro (h | h)
      · exact .inl h
      · exact .inr ⟨e, by omega⟩
    · rintro (h | ⟨_, rfl⟩)
      · exact .inl h
      · exact .inr ⟨by omega, by omega, rfl⟩
  · rw [if_neg e, h.is i j hi]
    exact ⟨fun h => .inl h, fun h => h.elim id (fun h => absurd h.1 e)⟩
/-- what the call makes of an edge that is asked for. -/
def putE (m : Mm.Gr) (a b : Int) : Mm.Gr := if 0 ≤ a ∧ a < 32 ∧ 0 ≤ b ∧ b < 32 ∧ a ≠ b then Mm.put m a.toNat b.toNat else m
theorem Is.putE {m : Mm.Gr} {G : Nat → Nat → Prop} (h : Is m G) (a b : Int) (ha : a < 32) (hb : 0 ≤ b ∧ b < 32) : Is (putE m a b) (fun i j => G i j ∨ ((i : Int) = a ∧ (j : Int) = b ∧ a ≠ b)) := by
  unfold Hi.putE
  by_cases e : 0 ≤ a ∧ a < 32 ∧ 0 ≤ b ∧ b < 32 ∧ a ≠ b
  · rw [if_pos e]
    refine (h.put (b := b.toNat) (by omega)).congr fun i j _ => ?_
    constructor
    · rintro (h | ⟨h1, h2⟩)
      · exact .inl h
      · exact .inr ⟨by omega, by omega, e.2.2.2.2⟩
    · rintro (h | ⟨h1, h2, _⟩)
      · exact .inl h
      · exact .inr ⟨by omega, by omega⟩
  · rw [if_neg e]
    refine h.congr fun i j _ => ⟨fun h => .inl h, ?_⟩
    rintro (h | ⟨h1, h2, h3⟩)
    · exact h
    · exact absurd ⟨by omega, ha, hb.1, hb.2, h3⟩ e
end Go.Proofs.Ytcfdndppkpjleaa.Hi
