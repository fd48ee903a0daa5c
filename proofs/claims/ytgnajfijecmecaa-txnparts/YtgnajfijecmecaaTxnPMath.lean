/-
  The mathematics of TxnParts: what two rows of Writes leave in a map.
-/
import Derived.Test.YtgnajfijecmecaaTxnLaw
namespace Go.Proofs.Ytgnajfijecmecaa.Tx
open Go.RowKit
def upd (f : Int → Option Sp) (s : Sp) : Int → Option Sp := fun z => if z = s.x then some s else f z
def putAll (f : Int → Option Sp) (R : List Sp) : Int → Option Sp := R.foldl upd f
theorem putAll_snoc (f : Int → Option Sp) (R : List Sp) (s : Sp) : putAll f (R ++ [s]) = upd (putAll f R) s := by simp [putAll]
theorem putAll_rise {f g : Int → Option Sp} (hg : ∀ z s, g z = some s → s.x = z) (k : Nat) (z : Int) : putAll f (rise g k) z = if 0 ≤ z ∧ z < (k : Int) then (g z).or (f z) else f z := by
  induction k with
  | zero => rw [if_neg (by omega)]; rfl
  | succ k ih =>
    cases e : g (k : Nat) with
    | none =>
      rw [rise_succ_none e, ih]
      by_cases hz : z = (k : Nat)
      · subst hz; rw [if_neg (by omega), if_pos (by omega), e]; rfl
      · by_cases h : 0 ≤ z ∧ z < (k : Int)
        · rw [if_pos h, if_pos (by omega)]
        · rw [if_neg h, if_neg (by omega)]
    | some s =>
      have hs := hg _ _ e
      rw [rise_succ_some e, putAll_snoc]
      show (if z = s.x then some s else putAll f (rise g k) z) = _
      by_cases hz : z = (k : Nat)
      · rw [if_pos (by omega), if_pos (by omega), hz, e]; rfl
      · rw [if_neg (by omega), ih]
        by_cases h : 0 ≤ z ∧ z < (k : Int)
        · rw [if_pos h, if_pos (by omega)]
        · rw [if_neg h, if_neg (by omega)]
/-- how many variables have something. -/
def cnt (f : Int → Option Sp) : Nat := (rise f 64).length
theorem rise_upd (f : Int → Option Sp) (s : Sp) (j : Nat) (hj : s.x = (j : Nat)) (k : Nat) : (rise (upd f s) k).length = (rise f k).length + (if j < k ∧ (f (j : Nat)).isSome = false then 1 else 0) := by
  induction k with
  | zero => rw [if_neg (by omega)]; rfl
  | succ k ih =>
    by_cases hk : k = j
    · subst hk
      have e : upd f s (k : Nat) = some s := by unfold upd; rw [if_pos hj.symm]
      rw [rise_succ_some e, List.length_append, ih, if_neg (by omega)]
      cases h : f (k : Nat) with
      | none => rw [rise_succ_none h, if_pos ⟨by omega, rfl⟩]; rfl
      | some u => rw [rise_succ_some h, if_neg (by simp)]; simp
    · have e : upd f s (k : Nat) = f (k : Nat) := by unfold upd; rw [if_neg (by omega)]
      have hif : (j < k + 1 ∧ (f (j : Nat)).isSome = false) ↔ (j < k ∧ (f (j : Nat)).isSome = false) := by constructor <;> (rintro ⟨a, b⟩; exact ⟨by omega, b⟩)
      simp only [hif]
      cases h : f (k : Nat) with
      | none => rw [rise_succ_none h, rise_succ_none (e.trans h), ih]
      | some u => rw [rise_succ_some h, rise_succ_some (e.trans h), List.length_append, List.length_append, ih]; simp; omega
theorem cnt_upd (f : Int → Option Sp) (s : Sp) (h0 : 0 ≤ s.x) (h1 : s.x < 64) : cnt (upd f s) = if (f s.x).isSome then cnt f else cnt f + 1 := by
  obtain ⟨j, hj⟩ := Int.eq_ofNat_of_zero_le h0
  unfold cnt
  rw [rise_upd f s j hj 64, hj]
  cases h : (f (j : Nat)).isSome with
  | true => rw [if_neg (by simp), if_pos rfl]; rfl
  | false => rw [if_pos ⟨by omega, rfl⟩, if_neg (by simp)]
theorem writes_mem {L : List Sp} {s : Sp} (h : s ∈ writesL L) : 0 ≤ s.x ∧ s.x < 64 ∧ s ∈ L ∧ wr1 L s.x = some s := by
  obtain ⟨x, hx, e⟩ := mem_rise h
  obtain ⟨h1, h2, _⟩ := wr1_some e
  exact ⟨by omega, by omega, h1, by rw [h2]; exact e⟩
/-- what both rows leave. -/
def both (L M : List Sp) : Int → Option Sp := putAll (putAll (fun _ => none) (writesL L)) (writesL M)
theorem both_at {L M : List Sp} {z : Int} (h0 : 0 ≤ z) (h1 : z < 64) : both L M z = wr1 (L ++ M) z := by
  unfold both writesL
  rw [putAll_rise (fun z s h => (wr1_some h).2.1), if_pos ⟨h0, h1⟩, putAll_rise (fun z s h => (wr1_some h).2.1), if_pos ⟨h0, h1⟩, wr1_append]
  simp
theorem both_cnt (L M : List Sp) : cnt (both L M) = (writesL (L ++ M)).length := by
  unfold cnt writesL
  rw [rise_congr (g := wr1 (L ++ M))]
  intro x hx
  exact both_at (by omega) (by omega)
end Go.Proofs.Ytgnajfijecmecaa.Tx
