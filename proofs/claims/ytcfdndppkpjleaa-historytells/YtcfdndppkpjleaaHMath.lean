/-
  Rows of events, and how each transaction of one went, in plain mathematics: no program in it.
-/
import Derived.Test.YtcfdndppkpjleaaTxnMath
namespace Go.Proofs.Ytcfdndppkpjleaa.Hi
open Tx (i64p right)
/-- an event: its kind, its transaction, its variable, its value. -/
structure Ev where
  kd : Int
  id : Int
  x : Int
  k : Int
  n : Int
def Ev.ok (e : Ev) : Prop := i64p e.kd ∧ i64p e.id ∧ i64p e.x ∧ i64p e.k ∧ i64p e.n
abbrev never : Nat := 9007199254740992
/-- how a transaction went: its beginning, its end, whether it was committed, the numbers of those of its reads and writes that count. -/
structure Cr where
  b : Nat
  e : Nat
  com : Bool
  rd : Int → Option Nat
  wr : Int → Option Nat
def over (c : Cr) : Bool := decide (c.e ≠ never)
def bare (e : Ev) : Bool := decide (e.x = 0) && (decide (e.k = 0) && decide (e.n = 0))
def liveO : Option Cr → Bool
  | some c => !over c
  | none => false
def live (l : List Cr) (id : Int) : Bool := decide (1 ≤ id) && (decide (id ≤ (l.length : Int)) && liveO l[(id - 1).toNat]?)
def fits (l : List Cr) (e : Ev) : Bool :=
  if e.kd = 0 then decide (e.id = (l.length : Int) + 1) && (decide (e.id ≤ 32) && bare e)
  else if e.kd = 1 ∨ e.kd = 2 then live l e.id && (decide (0 ≤ e.x) && (decide (e.x < 64) && right e.k e.n))
  else if e.kd = 3 ∨ e.kd = 4 then live l e.id && bare e
  else false
def begun (n : Nat) : Cr := ⟨n, never, false, fun _ => none, fun _ => none⟩
def upd (f : Int → Option Nat) (x : Int) (n : Nat) : Int → Option Nat := fun y => if y = x then some n else f y
def note (c : Cr) (n : Nat) (e : Ev) : Cr :=
  if e.kd = 1 then (if (c.rd e.x).isSome = false ∧ (c.wr e.x).isSome = false then ⟨c.b, c.e, c.com, upd c.rd e.x n, c.wr⟩ else c)
  else if e.kd = 2 then ⟨c.b, c.e, c.com, c.rd, upd c.wr e.x n⟩
  else ⟨c.b, n, decide (e.kd = 3), c.rd, c.wr⟩
def step (l : List Cr) (n : Nat) (e : Ev) : List Cr :=
  if e.kd = 0 then l ++ [begun n]
  else match l[(e.id - 1).toNat]? with
    | some c => l.set (e.id - 1).toNat (note c n e)
    | none => l
def run : Nat → List Cr → List Ev → Option (List Cr)
  | _, l, [] => some l
  | n, l, e :: es => if fits l e then run (n + 1) (step l n e) es else none
def crs (h : List Ev) : Option (List Cr) := if 2000 < h.length then none else run 0 [] h
/-- what the call hands back: none, if it is not right. -/
def crL (h : List Ev) : List Cr := (crs h).getD []
theorem live_iff {l : List Cr} {id : Int} : live l id = true ↔ ∃ j : Nat, ∃ c, id = (j : Int) + 1 ∧ l[j]? = some c ∧ over c = false := by
  unfold live
  constructor
  · intro h
    simp only [Bool.and_eq_true, decide_eq_true_eq] at h
    obtain ⟨h0, h1, h2⟩ := h
    cases hc : l[(id - 1).toNat]? with
    | none => rw [hc] at h2; simp [liveO] at h2
    | some c =>
      rw [hc] at h2
      exact ⟨(id - 1).toNat, c, by omega, hc, by simpa [liveO] using h2⟩
  · rintro ⟨j, c, rfl, hc, ho⟩
    have hl := (List.getElem?_eq_some_iff.1 hc).1
    have e : ((j : Int) + 1 - 1).toNat = j := by omega
    rw [e, hc]
    simp only [Bool.and_eq_true, decide_eq_true_eq, liveO, ho]
    exact ⟨by omega, by omega, rfl⟩
theorem fits_begin {l : List Cr} {e : Ev} (h : e.kd = 0) (hf : fits l e = true) : e.id = (l.length : Int) + 1 ∧ l.length < 32 ∧ bare e = true := by
  unfold fits at hf
  rw [if_pos h] at hf
  simp only [Bool.and_eq_true, decide_eq_true_eq] at hf
  exact ⟨hf.1, by omega, hf.2.2⟩
theorem fits_live {l : List Cr} {e : Ev} (h : e.kd ≠ 0) (hf : fits l e = true) : live l e.id = true := by
  unfold fits at hf
  rw [if_neg h] at hf
  by_cases h1 : e.kd = 1 ∨ e.kd = 2
  · rw [if_pos h1] at hf; simp only [Bool.and_eq_true] at hf; exact hf.1
  · rw [if_neg h1] at hf
    by_cases h2 : e.kd = 3 ∨ e.kd = 4
    · rw [if_pos h2] at hf; simp only [Bool.and_eq_true] at hf; exact hf.1
    · rw [if_neg h2] at hf; cases hf
theorem fits_kd {l : List Cr} {e : Ev} (hf : fits l e = true) : e.kd = 0 ∨ e.kd = 1 ∨ e.kd = 2 ∨ e.kd = 3 ∨ e.kd = 4 := by
  unfold fits at hf
  by_cases h0 : e.kd = 0
  · exact .inl h0
  · rw [if_neg h0] at hf
    by_cases h1 : e.kd = 1 ∨ e.kd = 2
    · omega
    · rw [if_neg h1] at hf
      by_cases h2 : e.kd = 3 ∨ e.kd = 4
      · omega
      · rw [if_neg h2] at hf; cases hf
theorem fits_var {l : List Cr} {e : Ev} (h : e.kd = 1 ∨ e.kd = 2) (hf : fits l e = true) : 0 ≤ e.x ∧ e.x < 64 := by
  unfold fits at hf
  rw [if_neg (by omega), if_pos h] at hf
  simp only [Bool.and_eq_true, decide_eq_true_eq] at hf
  exact ⟨hf.2.1, hf.2.2.1⟩
/-- the transaction that an event is of. -/
theorem fits_at {l : List Cr} {e : Ev} (h : e.kd ≠ 0) (hf : fits l e = true) : ∃ j : Nat, ∃ c, e.id = (j : Int) + 1 ∧ l[j]? = some c ∧ over c = false := live_iff.1 (fits_live h hf)
theorem step_begin {l : List Cr} {e : Ev} (n : Nat) (h : e.kd = 0) : step l n e = l ++ [begun n] := by unfold step; rw [if_pos h]
theorem step_note {l : List Cr} {e : Ev} (n : Nat) {j : Nat} {c : Cr} (h : e.kd ≠ 0) (hj : e.id = (j : Int) + 1) (hc : l[j]? = some c) : step l n e = l.set j (note c n e) := by
  unfold step
  rw [if_neg h, hj, show ((j : Int) + 1 - 1).toNat = j by omega, hc]
theorem run_append (a : List Ev) : ∀ (n : Nat) (l : List Cr) (b : List Ev), run n l (a ++ b) = (run n l a).bind fun l' => run (n + a.length) l' b := by
  induction a with
  | nil => intro n l b; rfl
  | cons e a ih =>
    intro n l b
    show (if fits l e then run (n + 1) (step l n e) (a ++ b) else none) = _
    show _ = Option.bind (if fits l e then run (n + 1) (step l n e) a else none) _
    by_cases h : fits l e
    · rw [if_pos h, if_pos h, ih]
      congr 1
      funext l'
      rw [List.length_cons, show n + (a.length + 1) = n + 1 + a.length by omega]
    · rw [if_neg h, if_neg h]; rfl
theorem run_snoc {n : Nat} {l l' : List Cr} {a : List Ev} {e : Ev} (h : run n l a = some l') : run n l (a ++ [e]) = if fits l' e then some (step l' (n + a.length) e) else none := by
  rw [run_append, h]; rfl
theorem rev_ind {P : List Ev → Prop} (h0 : P []) (hs : ∀ a e, P a → P (a ++ [e])) (a : List Ev) : P a := by
  have h : ∀ l : List Ev, P l.reverse := fun l => by
    induction l with
    | nil => exact h0
    | cons e l ih => rw [List.reverse_cons]; exact hs _ _ ih
  have := h a.reverse
  rwa [List.reverse_reverse] at this
/-- by the last event. -/
theorem run_ind {P : Nat → List Ev → List Cr → Prop} (h0 : P 0 [] []) (hs : ∀ (a : List Ev) (l : List Cr) (e : Ev), run 0 [] a = some l → P a.length a l → fits l e = true → P (a.length + 1) (a ++ [e]) (step l a.length e)) :
    ∀ (a : List Ev) (l : List Cr), run 0 [] a = some l → P a.length a l := by
  intro a
  refine rev_ind (P := fun a => ∀ l, run 0 [] a = some l → P a.length a l) ?_ ?_ a
  · intro l h; obtain rfl := Option.some.inj h; exact h0
  · intro a e ih l h
    rw [run_append] at h
    cases ha : run 0 [] a with
    | none => rw [ha] at h; cases h
    | some l' =>
      rw [ha] at h
      change (if fits l' e then some (step l' (0 + a.length) e) else none) = some l at h
      by_cases hf : fits l' e = true
      · rw [if_pos hf, Nat.zero_add] at h
        obtain rfl := Option.some.inj h
        have := hs a l' e ha (ih l' ha) hf
        rwa [List.length_append]
      · rw [if_neg hf] at h; cases h
/-- what holds of each transaction behind n events. -/
structure Okc (n : Nat) (c : Cr) : Prop where
  b : c.b < n
  e : c.e = never ∨ (c.b < c.e ∧ c.e < n)
  com : c.com = true → c.e ≠ never
  rd : ∀ x k, c.rd x = some k → 0 ≤ x ∧ x < 64 ∧ c.b < k ∧ k < n ∧ k < c.e
  wr : ∀ x k, c.wr x = some k → 0 ≤ x ∧ x < 64 ∧ c.b < k ∧ k < n ∧ k < c.e
theorem Okc.mono {n m : Nat} {c : Cr} (h : Okc n c) (hm : n ≤ m) : Okc m c :=
  ⟨Nat.lt_of_lt_of_le h.b hm, h.e.imp id (fun h => ⟨h.1, Nat.lt_of_lt_of_le h.2 hm⟩), h.com, fun x k e => by have := h.rd x k e; omega, fun x k e => by have := h.wr x k e; omega⟩
theorem okc_begun (n : Nat) : Okc (n + 1) (begun n) := ⟨Nat.lt_succ_self _, .inl rfl, (fun h => by cases h), (fun x k h => by cases h), (fun x k h => by cases h)⟩
theorem upd_some {f : Int → Option Nat} {x y : Int} {n k : Nat} (h : upd f x n y = some k) : (y = x ∧ k = n) ∨ f y = some k := by
  unfold upd at h
  by_cases e : y = x
  · rw [if_pos e] at h; exact .inl ⟨e, (Option.some.inj h).symm⟩
  · rw [if_neg e] at h; exact .inr h
theorem okc_note {n : Nat} {c : Cr} {e : Ev} (h : Okc n c) (ho : over c = false) (hn : n < 9007199254740992) (hx : e.kd = 1 ∨ e.kd = 2 → 0 ≤ e.x ∧ e.x < 64) : Okc (n + 1) (note c n e) := by
  have he : c.e = never := by simpa [over] using ho
  have h' := h.mono (Nat.le_succ n)
  unfold note
  by_cases h1 : e.kd = 1
  · rw [if_pos h1]
    split
    · exact ⟨h'.b, h'.e, h'.com, fun x k hk => by
        have := hx (.inl h1)
        have hb := h.b
        rcases upd_some hk with ⟨rfl, rfl⟩ | hk
        · exact ⟨this.1, this.2, hb, Nat.lt_succ_self _, by show k < c.e; rw [he]; exact hn⟩
        · exact h'.rd x k hk, h'.wr⟩
    · exact h'
  · rw [if_neg h1]
    by_cases h2 : e.kd = 2
    · rw [if_pos h2]
      exact ⟨h'.b, h'.e, h'.com, h'.rd, fun x k hk => by
        have := hx (.inr h2)
        have hb := h.b
        rcases upd_some hk with ⟨rfl, rfl⟩ | hk
        · exact ⟨this.1, this.2, hb, Nat.lt_succ_self _, by show k < c.e; rw [he]; exact hn⟩
        · exact h'.wr x k hk⟩
    · rw [if_neg h2]
      exact ⟨h'.b, .inr ⟨h.b, Nat.lt_succ_self _⟩, fun _ => by show n ≠ never; unfold never; omega, fun x k hk => by
        have := h.rd x k hk; exact ⟨this.1, this.2.1, this.2.2.1, by omega, this.2.2.2.1⟩, fun x k hk => by
        have := h.wr x k hk; exact ⟨this.1, this.2.1, this.2.2.1, by omega, this.2.2.2.1⟩⟩
theorem step_mem {l : List Cr} {n : Nat} {e : Ev} (hf : fits l e = true) {c' : Cr} (h : c' ∈ step l n e) : c' ∈ l ∨ (e.kd = 0 ∧ c' = begun n) ∨ ∃ j c, e.kd ≠ 0 ∧ e.id = ((j : Nat) : Int) + 1 ∧ l[j]? = some c ∧ over c = false ∧ c' = note c n e := by
  by_cases h0 : e.kd = 0
  · rw [step_begin n h0, List.mem_append, List.mem_singleton] at h
    rcases h with h | h
    · exact .inl h
    · exact .inr (.inl ⟨h0, h⟩)
  · obtain ⟨j, c, hj, hc, ho⟩ := fits_at h0 hf
    rw [step_note n h0 hj hc] at h
    rcases List.mem_or_eq_of_mem_set h with h | h
    · exact .inl h
    · exact .inr (.inr ⟨j, c, h0, hj, hc, ho, h⟩)
theorem run_ok {a : List Ev} {l : List Cr} (h : run 0 [] a = some l) (hn : a.length ≤ 2000) : (∀ c ∈ l, Okc a.length c) ∧ l.length ≤ 32 := by
  refine run_ind (P := fun n a l => a.length ≤ 2000 → (∀ c ∈ l, Okc n c) ∧ l.length ≤ 32) (fun _ => ⟨(fun c hc => by cases hc), by simp⟩) ?_ a l h hn
  intro a l e ha ih hf hlen
  rw [List.length_append] at hlen
  simp only [List.length_cons, List.length_nil] at hlen
  obtain ⟨i1, i2⟩ := ih (by omega)
  refine ⟨fun c hc => ?_, ?_⟩
  · rcases step_mem hf hc with hc | ⟨_, rfl⟩ | ⟨j, d, h0, hj, hd, ho, rfl⟩
    · exact (i1 c hc).mono (Nat.le_succ _)
    · exact okc_begun _
    · exact okc_note (i1 d (List.mem_of_getElem? hd)) ho (by omega) (fun hk => fits_var hk hf)
  · by_cases h0 : e.kd = 0
    · rw [step_begin _ h0]
      have := (fits_begin h0 hf).2.1
      simp; omega
    · obtain ⟨j, c, hj, hc, ho⟩ := fits_at h0 hf
      rw [step_note _ h0 hj hc, List.length_set]; exact i2
theorem crs_some {h : List Ev} {l : List Cr} (hc : crs h = some l) : h.length ≤ 2000 ∧ run 0 [] h = some l := by
  unfold crs at hc
  by_cases e : 2000 < h.length
  · rw [if_pos e] at hc; cases hc
  · rw [if_neg e] at hc; exact ⟨by omega, hc⟩
theorem crs_run {h : List Ev} (hl : h.length ≤ 2000) : crs h = run 0 [] h := by unfold crs; rw [if_neg (by omega)]
end Go.Proofs.Ytcfdndppkpjleaa.Hi
