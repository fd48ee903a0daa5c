/-
  What the calls of layer 10 make of a row of values, in plain mathematics: no program in it.
-/
import Derived.Test.YtcfdndppkpjleaaTxnMath
namespace Go.Proofs.Ytcfdndppkpjleaa.Rp
open Tx
abbrev Vp := Int × Int
/-- a transaction as it went: its number, whether it was committed, is over, its reads and writes. -/
structure Ent where
  id : Int
  com : Bool
  ovr : Bool
  rd : List Sp
  wt : List Sp
/-- what a variable has, if there is one. -/
def at_ (S : List Vp) (x : Int) : Option Vp := if 0 ≤ x then S[x.toNat]? else none
def has (S : List Vp) (x : Int) : Bool := decide (0 ≤ x) && decide (x < (S.length : Int))
/-- a step that cannot have been read, or not be written. -/
def lacks (S : List Vp) (s : Sp) : Bool := !has S s.x
def denies (S : List Vp) (s : Sp) : Bool := lacks S s || decide (at_ S s.x ≠ some (s.k, s.n))
def fits (S : List Vp) (e : Ent) : Bool := !(e.rd.any (denies S)) && !(e.wt.any (lacks S))
def put (S : List Vp) (W : List Sp) : List Vp := W.foldl (fun l s => l.set s.x.toNat (s.k, s.n)) S
def next (S : List Vp) (e : Ent) : List Vp := if e.com then put S e.wt else S
def doS (S : List Vp) (e : Ent) : List Vp := if fits S e then next S e else S
def allS : List Vp → List Ent → List Vp
  | S, [] => S
  | S, e :: l => if fits S e then allS (next S e) l else S
def allI : List Vp → List Ent → Option Nat
  | _, [] => none
  | S, e :: l => if fits S e then (allI (next S e) l).map (· + 1) else some 0
def allN (S : List Vp) (l : List Ent) : Int := match allI S l with | none => -1 | some k => (k : Nat)
theorem has_iff (S : List Vp) (x : Int) : has S x = true ↔ 0 ≤ x ∧ x < (S.length : Int) := by simp [has]
theorem put_len (S : List Vp) (W : List Sp) : (put S W).length = S.length := by
  induction W generalizing S with
  | nil => rfl
  | cons s W ih => show (put (S.set _ _) W).length = _; rw [ih, List.length_set]
theorem next_len (S : List Vp) (e : Ent) : (next S e).length = S.length := by
  unfold next; split
  · exact put_len _ _
  · rfl
theorem doS_len (S : List Vp) (e : Ent) : (doS S e).length = S.length := by
  unfold doS; split
  · exact next_len _ _
  · rfl
theorem allS_len (S : List Vp) (l : List Ent) : (allS S l).length = S.length := by
  induction l generalizing S with
  | nil => rfl
  | cons e l ih =>
    unfold allS; split
    · rw [ih, next_len]
    · rfl
theorem allI_lt {S : List Vp} {l : List Ent} {k : Nat} (h : allI S l = some k) : k < l.length := by
  induction l generalizing S k with
  | nil => cases h
  | cons e l ih =>
    unfold allI at h
    split at h
    · cases e1 : allI (next S e) l with
      | none => rw [e1] at h; cases h
      | some j => rw [e1] at h; have h : j + 1 = k := Option.some.inj h; have := ih e1; simp; omega
    · have h := Option.some.inj h; simp; omega
theorem allI_append (S : List Vp) (l m : List Ent) : allI S (l ++ m) = (allI S l).or ((allI (allS S l) m).map (· + l.length)) := by
  induction l generalizing S with
  | nil => simp [allI, allS]
  | cons e l ih =>
    simp only [List.cons_append, allI, allS]
    split
    · rw [ih]
      cases allI (next S e) l with
      | some j => rfl
      | none =>
        cases allI (allS (next S e) l) m with
        | none => rfl
        | some j => simp; omega
    · rfl
theorem allS_append {S : List Vp} {l m : List Ent} : allS S (l ++ m) = if (allI S l).isNone then allS (allS S l) m else allS S l := by
  induction l generalizing S with
  | nil => simp [allI, allS]
  | cons e l ih =>
    simp only [List.cons_append, allI, allS]
    split
    · rw [ih]; cases allI (next S e) l <;> rfl
    · rfl
/-- who was not committed changes nothing. -/
theorem allI_com {S : List Vp} {l : List Ent} (h : allI S l = none) : allI S (l.filter (·.com)) = none ∧ allS S (l.filter (·.com)) = allS S l := by
  induction l generalizing S with
  | nil => exact ⟨rfl, rfl⟩
  | cons e l ih =>
    unfold allI at h
    split at h
    · rename_i hf
      have h1 : allI (next S e) l = none := by simpa using h
      obtain ⟨h2, h3⟩ := ih h1
      cases hc : e.com with
      | true => simp only [List.filter_cons, hc, if_true, allI, allS, hf]; rw [h2, h3]; exact ⟨rfl, rfl⟩
      | false =>
        have hn : next S e = S := by unfold next; rw [hc]; rfl
        rw [hn] at h2 h3
        simp only [List.filter_cons, hc, allS, hf, if_true]
        rw [hn]
        exact ⟨h2, h3⟩
    · cases h
/-- the last write of a place. -/
def lastW (W : List Sp) (i : Nat) : Option Sp := W.reverse.find? (fun s => decide (s.x.toNat = i))
theorem put_at (S : List Vp) (W : List Sp) (i : Nat) (hi : i < S.length) : (put S W)[i]? = match lastW W i with | some s => some (s.k, s.n) | none => S[i]? := by
  induction W generalizing S with
  | nil => rfl
  | cons s W ih =>
    show (put (S.set _ _) W)[i]? = _
    rw [ih _ (by rwa [List.length_set])]
    unfold lastW
    rw [List.reverse_cons, List.find?_append]
    cases W.reverse.find? (fun s => decide (s.x.toNat = i)) with
    | some t => rfl
    | none =>
      by_cases hx : s.x.toNat = i
      · simp [hx, hi]
      · simp [hx]
theorem put_put (S : List Vp) (W : List Sp) : put (put S W) W = put S W := by
  apply List.ext_getElem?
  intro i
  by_cases hi : i < S.length
  · rw [put_at _ _ _ (by rwa [put_len]), put_at _ _ _ hi]
    cases lastW W i <;> rfl
  · rw [List.getElem?_eq_none (by rw [put_len, put_len]; omega), List.getElem?_eq_none (by rw [put_len]; omega)]
def wrs (l : List Ent) : List Sp := l.flatMap fun e => if e.com then e.wt else []
theorem allS_wrs {S : List Vp} {l : List Ent} (h : allI S l = none) : allS S l = put S (wrs l) := by
  induction l generalizing S with
  | nil => rfl
  | cons e l ih =>
    unfold allI at h
    split at h
    · rename_i hf
      have h1 : allI (next S e) l = none := by simpa using h
      simp only [allS, hf, if_true]
      rw [ih h1]
      unfold next wrs
      rw [List.flatMap_cons]
      cases e.com with
      | true => show put (put S e.wt) _ = put S (e.wt ++ _); unfold put; rw [List.foldl_append]
      | false => rfl
    · cases h
theorem twice_same {S : List Vp} {l : List Ent} (h1 : allI S l = none) (h2 : allI (allS S l) l = none) : allS (allS S l) l = allS S l := by
  rw [allS_wrs h2, allS_wrs h1, put_put]
theorem twice_no {S : List Vp} {l : List Ent} {k : Nat} (h : allI S l = some k) : allI S (l ++ l) = some k ∧ allS S (l ++ l) = allS S l := by
  rw [allI_append, allS_append, h]; exact ⟨rfl, rfl⟩
theorem twice_yes {S : List Vp} {l : List Ent} (h : allI S l = none) : allI S (l ++ l) = (allI (allS S l) l).map (· + l.length) ∧ allS S (l ++ l) = allS (allS S l) l := by
  rw [allI_append, allS_append, h]; exact ⟨rfl, rfl⟩
theorem all_step {S : List Vp} {l : List Ent} {k : Nat} {e : Ent} (h : l[k]? = some e) (hf : fits S e = true) : allS S (l.drop k) = allS (next S e) (l.drop (k + 1)) ∧ allI S (l.drop k) = (allI (next S e) (l.drop (k + 1))).map (· + 1) := by
  obtain ⟨hl, rfl⟩ := List.getElem?_eq_some_iff.1 h
  rw [List.drop_eq_getElem_cons hl]
  exact ⟨by simp [allS, hf], by simp [allI, hf]⟩
theorem all_stop {S : List Vp} {l : List Ent} {k : Nat} {e : Ent} (h : l[k]? = some e) (hf : fits S e = false) : allS S (l.drop k) = S ∧ allI S (l.drop k) = some 0 := by
  obtain ⟨hl, rfl⟩ := List.getElem?_eq_some_iff.1 h
  rw [List.drop_eq_getElem_cons hl]
  simp [allS, allI, hf]
/-- the state behind k entries, all of which fit. -/
structure Stand (S0 : List Vp) (l : List Ent) (k : Nat) (S : List Vp) : Prop where
  s : allS S0 l = allS S (l.drop k)
  i : allI S0 l = (allI S (l.drop k)).map (· + k)
  len : S.length = S0.length
theorem Stand.zero (S : List Vp) (l : List Ent) : Stand S l 0 S := ⟨rfl, by simp, rfl⟩
theorem Stand.step {S0 S : List Vp} {l : List Ent} {k : Nat} {e : Ent} (h : Stand S0 l k S) (he : l[k]? = some e) (hf : fits S e = true) : Stand S0 l (k + 1) (next S e) := by
  obtain ⟨h1, h2⟩ := all_step he hf
  refine ⟨h.s.trans h1, ?_, (next_len _ _).trans h.len⟩
  rw [h.i, h2]
  cases allI (next S e) (l.drop (k + 1)) with
  | none => rfl
  | some j => simp; omega
theorem Stand.stop {S0 S : List Vp} {l : List Ent} {k : Nat} {e : Ent} (h : Stand S0 l k S) (he : l[k]? = some e) (hf : fits S e = false) : allS S0 l = S ∧ allN S0 l = (k : Nat) := by
  obtain ⟨h1, h2⟩ := all_stop he hf
  refine ⟨h.s.trans h1, ?_⟩
  unfold allN
  rw [h.i, h2]
  simp
theorem Stand.end_ {S0 S : List Vp} {l : List Ent} {k : Nat} (h : Stand S0 l k S) (hk : l.length ≤ k) : allS S0 l = S ∧ allN S0 l = -1 := by
  have e : l.drop k = [] := List.drop_eq_nil_of_le hk
  have h1 := h.s
  have h2 := h.i
  rw [e] at h1 h2
  exact ⟨h1, by unfold allN; rw [h2]; rfl⟩
end Go.Proofs.Ytcfdndppkpjleaa.Rp
