/-
  Steps and what the calls of layer 8 make of a transaction, in plain mathematics: no program in it.
-/
import Derived.WalkKit
namespace Go.Proofs.Ytcfdndppkpjleaa.Tx
def i64p (n : Int) : Prop := -9223372036854775808 ≤ n ∧ n ≤ 9223372036854775807
/-- a step: its variable, its value (kind, number), whether it is a Write. -/
structure Sp where
  x : Int
  k : Int
  n : Int
  wr : Bool
def Sp.ok (v : Sp) : Prop := i64p v.x ∧ i64p v.k ∧ i64p v.n
def right (k n : Int) : Bool := if k = 0 then decide (n = 0) else if k = 1 then true else if k = 2 then decide (0 ≤ n) && decide (n < 64) else false
def zero : Sp := ⟨0, 0, 0, false⟩
theorem zero_ok : zero.ok := by refine ⟨⟨?_, ?_⟩, ⟨?_, ?_⟩, ⟨?_, ?_⟩⟩ <;> decide
/-- what add answers, and the row that comes of it. -/
def addE (L : List Sp) (s : Sp) : Int := if 0 ≤ s.x ∧ s.x < 64 ∧ right s.k s.n = true then (if 200 ≤ L.length then 4 else 0) else 2
def addL (L : List Sp) (s : Sp) : List Sp := if addE L s = 0 then L ++ [s] else L
/-- what Back leaves. -/
def backL (L : List Sp) (k : Nat) : List Sp := L.take k ++ (L.drop k).filter (fun s => !s.wr)
/-- the last Write of a variable, the first step of it that is none, the first step. -/
def wr1 (L : List Sp) (x : Int) : Option Sp := L.reverse.find? (fun s => decide (s.x = x) && s.wr)
def rd1 (L : List Sp) (x : Int) : Option Sp := L.find? (fun s => decide (s.x = x) && !s.wr)
def first (L : List Sp) (x : Int) : Option Sp := L.find? (fun s => decide (s.x = x))
/-- the step whose value is looked up. -/
def look (L : List Sp) (x : Int) : Option Sp := (wr1 L x).or (first L x)
/-- of the variables in order. -/
def rise (f : Int → Option Sp) (k : Nat) : List Sp := (List.range k).filterMap (fun x => f (x : Nat))
def writesL (L : List Sp) : List Sp := rise (wr1 L) 64
def readsL (L : List Sp) : List Sp := rise (rd1 L) 64
theorem take_step {α : Type} {l : List α} {k : Nat} {z : α} (h : l[k]? = some z) : l.take (k + 1) = l.take k ++ [z] := by
  obtain ⟨hl, rfl⟩ := List.getElem?_eq_some_iff.1 h
  exact List.take_succ_eq_append_getElem hl
theorem rise_succ_some {f : Int → Option Sp} {k : Nat} {s : Sp} (h : f (k : Nat) = some s) : rise f (k + 1) = rise f k ++ [s] := by
  simp [rise, List.range_succ, List.filterMap_append, h]
theorem rise_succ_none {f : Int → Option Sp} {k : Nat} (h : f (k : Nat) = none) : rise f (k + 1) = rise f k := by
  simp [rise, List.range_succ, List.filterMap_append, h]
theorem rise_len (f : Int → Option Sp) (k : Nat) : (rise f k).length ≤ k := by
  induction k with
  | zero => simp [rise]
  | succ k ih =>
    cases h : f (k : Nat) with
    | none => rw [rise_succ_none h]; omega
    | some s => rw [rise_succ_some h, List.length_append]; simp; omega
theorem rise_congr {f g : Int → Option Sp} {k : Nat} (h : ∀ x : Nat, x < k → f (x : Nat) = g (x : Nat)) : rise f k = rise g k := by
  induction k with
  | zero => rfl
  | succ k ih =>
    have ih := ih fun x hx => h x (by omega)
    have hk := h k (by omega)
    cases e : f (k : Nat) with
    | none => rw [rise_succ_none e, rise_succ_none (hk.symm.trans e), ih]
    | some s => rw [rise_succ_some e, rise_succ_some (hk.symm.trans e), ih]
theorem mem_rise {f : Int → Option Sp} {k : Nat} {s : Sp} (h : s ∈ rise f k) : ∃ x : Nat, x < k ∧ f (x : Nat) = some s := by
  unfold rise at h
  obtain ⟨x, hx, e⟩ := List.mem_filterMap.1 h
  exact ⟨x, by simpa using hx, e⟩
theorem wr1_some {L : List Sp} {x : Int} {s : Sp} (h : wr1 L x = some s) : s ∈ L ∧ s.x = x ∧ s.wr = true := by
  have h1 := List.find?_some h
  have h2 := List.mem_of_find?_eq_some h
  simp at h1 h2
  exact ⟨h2, h1.1, h1.2⟩
theorem rd1_some {L : List Sp} {x : Int} {s : Sp} (h : rd1 L x = some s) : s ∈ L ∧ s.x = x ∧ s.wr = false := by
  have h1 := List.find?_some h
  have h2 := List.mem_of_find?_eq_some h
  simp at h1
  exact ⟨h2, h1.1, h1.2⟩
theorem first_some {L : List Sp} {x : Int} {s : Sp} (h : first L x = some s) : s ∈ L ∧ s.x = x := by
  have h1 := List.find?_some h
  have h2 := List.mem_of_find?_eq_some h
  simp at h1
  exact ⟨h2, h1⟩
theorem wr1_append (L M : List Sp) (x : Int) : wr1 (L ++ M) x = (wr1 M x).or (wr1 L x) := by simp [wr1, List.reverse_append, List.find?_append]
theorem rd1_append (L M : List Sp) (x : Int) : rd1 (L ++ M) x = (rd1 L x).or (rd1 M x) := by simp [rd1, List.find?_append]
theorem first_append (L M : List Sp) (x : Int) : first (L ++ M) x = (first L x).or (first M x) := by simp [first, List.find?_append]
theorem addL_len (L : List Sp) (s : Sp) : (addL L s).length ≤ L.length + 1 := by unfold addL; split <;> simp
theorem backL_len (L : List Sp) (k : Nat) : (backL L k).length ≤ L.length := by
  unfold backL
  have h1 := List.length_filter_le (fun s : Sp => !s.wr) (L.drop k)
  simp at h1 ⊢
  omega
theorem mem_backL {L : List Sp} {k : Nat} {s : Sp} (h : s ∈ backL L k) : s ∈ L := by
  rcases List.mem_append.1 h with h | h
  · exact List.mem_of_mem_take h
  · exact List.mem_of_mem_drop (List.mem_filter.1 h).1
theorem backL_all {L : List Sp} {k : Nat} (h : L.length ≤ k) : backL L k = L := by
  unfold backL; rw [List.take_of_length_le h, List.drop_of_length_le h]; simp
theorem find_filter {α : Type} {p q : α → Bool} (h : ∀ a, p a = true → q a = true) (l : List α) : (l.filter q).find? p = l.find? p := by
  induction l with
  | nil => rfl
  | cons a l ih =>
    by_cases hq : q a = true
    · rw [List.filter_cons_of_pos hq, List.find?_cons, List.find?_cons, ih]
    · rw [List.filter_cons_of_neg hq, ih, List.find?_cons]
      have : p a = false := by cases e : p a with | true => exact absurd (h a e) hq | false => rfl
      rw [this]
theorem wr1_filter (L : List Sp) (x : Int) : wr1 (L.filter (fun s => !s.wr)) x = none := by
  unfold wr1
  rw [List.find?_eq_none]
  intro s hs
  have := (List.mem_filter.1 (List.mem_reverse.1 hs)).2
  simp at this
  simp [this]
theorem rd1_filter (L : List Sp) (x : Int) : rd1 (L.filter (fun s => !s.wr)) x = rd1 L x :=
  find_filter (fun s h => by simp at h ⊢; exact h.2) L
/-- behind a Back the Writes are what they were, and all that was read is there. -/
theorem wr1_back (L : List Sp) (k : Nat) (x : Int) : wr1 (backL L k) x = wr1 (L.take k) x := by
  unfold backL
  rw [wr1_append, wr1_filter]; rfl
theorem rd1_back (L : List Sp) (k : Nat) (x : Int) : rd1 (backL L k) x = rd1 L x := by
  unfold backL
  rw [rd1_append, rd1_filter, ← rd1_append, List.take_append_drop]
theorem writes_back (L : List Sp) (k : Nat) : writesL (backL L k) = writesL (L.take k) := rise_congr fun x _ => wr1_back L k x
theorem reads_back (L : List Sp) (k : Nat) : readsL (backL L k) = readsL L := rise_congr fun x _ => rd1_back L k x
theorem writes_none (L : List Sp) : writesL (backL L 0) = [] := by
  rw [writes_back]
  rfl
theorem back_back {L : List Sp} {k : Nat} (h : k ≤ L.length) : backL (backL L k) k = backL L k := by
  have hl : (L.take k).length = k := by simp; omega
  have e1 : (backL L k).take k = L.take k := by
    unfold backL; rw [List.take_append_of_le_length (by omega), List.take_take, Nat.min_self]
  have e2 : (backL L k).drop k = (L.drop k).filter (fun s => !s.wr) := by
    unfold backL; rw [List.drop_append_of_le_length (by omega), List.drop_of_length_le (by omega)]; rfl
  show (backL L k).take k ++ ((backL L k).drop k).filter (fun s => !s.wr) = _
  rw [e1, e2, List.filter_filter]
  simp [backL]
end Go.Proofs.Ytcfdndppkpjleaa.Tx
