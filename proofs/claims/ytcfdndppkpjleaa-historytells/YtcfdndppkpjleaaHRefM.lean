/-
  What the document asks of a row of events, in plain mathematics, and how it goes together with the courses.
-/
import Derived.Test.YtcfdndppkpjleaaHGrM
namespace Go.Proofs.Ytcfdndppkpjleaa.Hi
open Tx (i64p right)
/-- what stands behind the events, one after another. -/
def scan {S : Type} (f : Nat → Ev → S → S) (s0 : S) (a : List Ev) : S := (a.foldl (fun p e => (p.1 + 1, f p.1 e p.2)) (0, s0)).2
theorem scan_at {S : Type} (f : Nat → Ev → S → S) (a : List Ev) : ∀ (n : Nat) (s : S), (a.foldl (fun p e => (p.1 + 1, f p.1 e p.2)) (n, s)).1 = n + a.length := by
  induction a with
  | nil => intro n s; rfl
  | cons e a ih =>
    intro n s
    rw [List.foldl_cons, ih, List.length_cons]
    omega
theorem scan_snoc {S : Type} (f : Nat → Ev → S → S) (s0 : S) (a : List Ev) (e : Ev) : scan f s0 (a ++ [e]) = f a.length e (scan f s0 a) := by
  unfold scan
  rw [List.foldl_append]
  change f (List.foldl (fun (p : Nat × S) e => (p.1 + 1, f p.1 e p.2)) (0, s0) a).1 e _ = _
  rw [scan_at, Nat.zero_add]
theorem scan_stay {S : Type} (f : Nat → Ev → S → S) (s0 : S) (a : List Ev) (h : ∀ n e, f n e (scan f s0 a) = scan f s0 a) (b : List Ev) : scan f s0 (a ++ b) = scan f s0 a := by
  refine rev_ind (P := fun b => scan f s0 (a ++ b) = scan f s0 a) ?_ ?_ b
  · rw [List.append_nil]
  · intro b e ih
    rw [← List.append_assoc, scan_snoc, ih, h]
theorem scan_take {S : Type} (f : Nat → Ev → S → S) (s0 : S) {L : List Ev} {k : Nat} {e : Ev} (he : L[k]? = some e) : scan f s0 (L.take (k + 1)) = f k e (scan f s0 (L.take k)) := by
  have hk := (List.getElem?_eq_some_iff.1 he).1
  rw [List.take_add_one, he, Option.toList, scan_snoc, List.length_take, Nat.min_eq_left (by omega)]
theorem scan_rest {S : Type} (f : Nat → Ev → S → S) (s0 : S) (L : List Ev) (k : Nat) (h : ∀ n e, f n e (scan f s0 (L.take k)) = scan f s0 (L.take k)) : scan f s0 L = scan f s0 (L.take k) := by
  have := scan_stay f s0 (L.take k) h (L.drop k)
  rwa [List.take_append_drop] at this
/-- the first one of a kind, of a transaction. -/
def whF (kd id : Int) (n : Nat) (e : Ev) (r : Int) : Int := if r = -1 then (if e.kd = kd ∧ e.id = id then (n : Int) else -1) else r
def whI (L : List Ev) (kd id : Int) : Int := scan (whF kd id) (-1) L
/-- the last write. -/
def lsF (id x : Int) (n : Nat) (e : Ev) (r : Int) : Int := if e.id = id ∧ e.x = x ∧ e.kd = 2 then (n : Int) else r
def lsI (L : List Ev) (id x : Int) : Int := scan (lsF id x) (-1) L
/-- the first read; -2: behind a write. -/
def rdF (id x : Int) (n : Nat) (e : Ev) (r : Int) : Int := if r = -1 then (if e.id = id ∧ e.x = x ∧ e.kd = 2 then -2 else if e.id = id ∧ e.x = x ∧ e.kd = 1 then (n : Int) else -1) else r
def rdS (L : List Ev) (id x : Int) : Int := scan (rdF id x) (-1) L
def rdI (L : List Ev) (id x : Int) : Int := if rdS L id x = -2 then -1 else rdS L id x
def enI (L : List Ev) (id : Int) : Int := max (whI L 3 id) (whI L 4 id)
def wrI (L : List Ev) (id x : Int) : Int := if 0 ≤ whI L 3 id then lsI L id x else -1
theorem whI_hit {L : List Ev} {k : Nat} {e : Ev} {kd id : Int} (he : L[k]? = some e) (h0 : whI (L.take k) kd id = -1) (h : e.kd = kd ∧ e.id = id) : whI L kd id = (k : Int) := by
  have h1 : whI (L.take (k + 1)) kd id = (k : Int) := by
    unfold whI at *
    rw [scan_take _ _ he, h0]; unfold whF; rw [if_pos rfl, if_pos h]
  have := scan_rest (whF kd id) (-1) L (k + 1) (fun n e' => by
    change whF kd id n e' (whI (L.take (k + 1)) kd id) = whI (L.take (k + 1)) kd id
    rw [h1]; unfold whF; rw [if_neg (by omega)])
  exact this.trans h1
theorem whI_miss {L : List Ev} {k : Nat} {e : Ev} {kd id : Int} (he : L[k]? = some e) (h0 : whI (L.take k) kd id = -1) (h : ¬ (e.kd = kd ∧ e.id = id)) : whI (L.take (k + 1)) kd id = -1 := by
  unfold whI at *
  rw [scan_take _ _ he, h0]; unfold whF; rw [if_pos rfl, if_neg h]
theorem rd_hit {L : List Ev} {k : Nat} {e : Ev} {id x r : Int} (he : L[k]? = some e) (h0 : rdS (L.take k) id x = -1) (h : rdF id x k e (-1) = r) (hr : r ≠ -1) : rdS L id x = r := by
  have h1 : rdS (L.take (k + 1)) id x = r := by
    unfold rdS at *
    rw [scan_take _ _ he, h0, h]
  have := scan_rest (rdF id x) (-1) L (k + 1) (fun n e' => by
    change rdF id x n e' (rdS (L.take (k + 1)) id x) = rdS (L.take (k + 1)) id x
    rw [h1]; unfold rdF; rw [if_neg hr])
  exact this.trans h1
theorem rdI_wrote {L : List Ev} {k : Nat} {e : Ev} {id x : Int} (he : L[k]? = some e) (h0 : rdS (L.take k) id x = -1) (h : e.id = id ∧ e.x = x ∧ e.kd = 2) : rdI L id x = -1 := by
  unfold rdI
  rw [rd_hit he h0 (r := -2) (by unfold rdF; rw [if_pos rfl, if_pos h]) (by decide), if_pos rfl]
theorem rdI_read {L : List Ev} {k : Nat} {e : Ev} {id x : Int} (he : L[k]? = some e) (h0 : rdS (L.take k) id x = -1) (h2 : ¬ (e.id = id ∧ e.x = x ∧ e.kd = 2)) (h : e.id = id ∧ e.x = x ∧ e.kd = 1) : rdI L id x = (k : Int) := by
  unfold rdI
  rw [rd_hit he h0 (r := (k : Int)) (by unfold rdF; rw [if_pos rfl, if_neg h2, if_pos h]) (by omega), if_neg (by omega)]
theorem rd_miss {L : List Ev} {k : Nat} {e : Ev} {id x : Int} (he : L[k]? = some e) (h0 : rdS (L.take k) id x = -1) (h2 : ¬ (e.id = id ∧ e.x = x ∧ e.kd = 2)) (h : ¬ (e.id = id ∧ e.x = x ∧ e.kd = 1)) : rdS (L.take (k + 1)) id x = -1 := by
  unfold rdS at *
  rw [scan_take _ _ he, h0]; unfold rdF; rw [if_pos rfl, if_neg h2, if_neg h]
theorem rdI_none {L : List Ev} {id x : Int} (h0 : rdS L id x = -1) : rdI L id x = -1 := by unfold rdI; rw [h0]; rfl
theorem ls_take {L : List Ev} {k : Nat} {e : Ev} {id x : Int} (he : L[k]? = some e) : lsI (L.take (k + 1)) id x = if e.id = id ∧ e.x = x ∧ e.kd = 2 then (k : Int) else lsI (L.take k) id x := by
  unfold lsI
  rw [scan_take _ _ he]; rfl
/- how they go together with the courses -/
def oB : Option Cr → Int
  | some c => (c.b : Int)
  | none => -1
def oC : Option Cr → Int
  | some c => if c.com then (c.e : Int) else -1
  | none => -1
def oA : Option Cr → Int
  | some c => if over c && !c.com then (c.e : Int) else -1
  | none => -1
def nI : Option Nat → Int
  | some k => (k : Int)
  | none => -1
def oR (x : Int) : Option Cr → Int
  | some c => if (c.rd x).isSome = true then nI (c.rd x) else if (c.wr x).isSome = true then -2 else -1
  | none => -1
def oW (x : Int) : Option Cr → Int
  | some c => nI (c.wr x)
  | none => -1
structure Tie (a : List Ev) (l : List Cr) : Prop where
  b : ∀ j : Nat, whI a 0 ((j : Int) + 1) = oB l[j]?
  c3 : ∀ j : Nat, whI a 3 ((j : Int) + 1) = oC l[j]?
  c4 : ∀ j : Nat, whI a 4 ((j : Int) + 1) = oA l[j]?
  r : ∀ (j : Nat) (x : Int), rdS a ((j : Int) + 1) x = oR x l[j]?
  w : ∀ (j : Nat) (x : Int), lsI a ((j : Int) + 1) x = oW x l[j]?
theorem note_b (c : Cr) (n : Nat) (e : Ev) : (note c n e).b = c.b := by
  unfold note
  split
  · split <;> rfl
  · split <;> rfl
theorem nI_ge {o : Option Nat} (h : o.isSome = true) : 0 ≤ nI o := by
  cases o with
  | none => cases h
  | some k => show (0 : Int) ≤ (k : Int); omega
theorem oR_lone {x : Int} {c : Cr} (h : oR x (some c) = -1) : (c.rd x).isSome = false ∧ (c.wr x).isSome = false := by
  unfold oR at h
  simp only at h
  by_cases q : (c.rd x).isSome = true
  · rw [if_pos q] at h; have := nI_ge q; omega
  · rw [if_neg q] at h
    by_cases q2 : (c.wr x).isSome = true
    · rw [if_pos q2] at h; omega
    · exact ⟨by simpa using q, by simpa using q2⟩
theorem oR_lone' {x : Int} {c : Cr} (h : (c.rd x).isSome = false ∧ (c.wr x).isSome = false) : oR x (some c) = -1 := by
  unfold oR
  simp only
  rw [if_neg (by rw [h.1]; decide), if_neg (by rw [h.2]; decide)]
theorem whF_id {kd id : Int} {n : Nat} {e : Ev} {r : Int} (h : e.id ≠ id) : whF kd id n e r = r := by
  unfold whF
  by_cases h1 : r = -1
  · rw [if_pos h1, if_neg (fun q => h q.2), h1]
  · rw [if_neg h1]
theorem whF_kd {kd id : Int} {n : Nat} {e : Ev} {r : Int} (h : e.kd ≠ kd) : whF kd id n e r = r := by
  unfold whF
  by_cases h1 : r = -1
  · rw [if_pos h1, if_neg (fun q => h q.1), h1]
  · rw [if_neg h1]
theorem whF_hit {kd id : Int} {n : Nat} {e : Ev} (h : e.kd = kd) (h2 : e.id = id) : whF kd id n e (-1) = (n : Int) := by
  unfold whF; rw [if_pos rfl, if_pos ⟨h, h2⟩]
theorem rdF_id {id x : Int} {n : Nat} {e : Ev} {r : Int} (h : e.id ≠ id) : rdF id x n e r = r := by
  unfold rdF
  by_cases h1 : r = -1
  · rw [if_pos h1, if_neg (fun q => h q.1), if_neg (fun q => h q.1), h1]
  · rw [if_neg h1]
theorem rdF_kd {id x : Int} {n : Nat} {e : Ev} {r : Int} (h : ¬ (e.x = x ∧ (e.kd = 1 ∨ e.kd = 2))) : rdF id x n e r = r := by
  unfold rdF
  by_cases h1 : r = -1
  · rw [if_pos h1, if_neg (fun q => h ⟨q.2.1, .inr q.2.2⟩), if_neg (fun q => h ⟨q.2.1, .inl q.2.2⟩), h1]
  · rw [if_neg h1]
theorem lsF_id {id x : Int} {n : Nat} {e : Ev} {r : Int} (h : e.id ≠ id) : lsF id x n e r = r := by unfold lsF; rw [if_neg (fun q => h q.1)]
theorem lsF_kd {id x : Int} {n : Nat} {e : Ev} {r : Int} (h : ¬ (e.x = x ∧ e.kd = 2)) : lsF id x n e r = r := by unfold lsF; rw [if_neg (fun q => h q.2)]
theorem tie_nil : Tie [] [] := ⟨fun _ => rfl, fun _ => rfl, fun _ => rfl, fun _ _ => rfl, fun _ _ => rfl⟩
theorem Tie.same {a : List Ev} {l : List Cr} (h : Tie a l) (e : Ev) {j : Nat} (hj : e.id ≠ (j : Int) + 1) {o : Option Cr} (ho : o = l[j]?) :
    whI (a ++ [e]) 0 ((j : Int) + 1) = oB o ∧ whI (a ++ [e]) 3 ((j : Int) + 1) = oC o ∧ whI (a ++ [e]) 4 ((j : Int) + 1) = oA o ∧ (∀ x, rdS (a ++ [e]) ((j : Int) + 1) x = oR x o) ∧ (∀ x, lsI (a ++ [e]) ((j : Int) + 1) x = oW x o) := by
  subst ho
  refine ⟨?_, ?_, ?_, fun x => ?_, fun x => ?_⟩
  · rw [← h.b]; unfold whI; rw [scan_snoc, whF_id hj]
  · rw [← h.c3]; unfold whI; rw [scan_snoc, whF_id hj]
  · rw [← h.c4]; unfold whI; rw [scan_snoc, whF_id hj]
  · rw [← h.r]; unfold rdS; rw [scan_snoc, rdF_id hj]
  · rw [← h.w]; unfold lsI; rw [scan_snoc, lsF_id hj]
theorem Tie.begin {a : List Ev} {l : List Cr} (h : Tie a l) (e : Ev) {j : Nat} (hk : e.kd = 0) (hj : e.id = (j : Int) + 1) (hn : l[j]? = none) {o : Option Cr} (ho : o = some (begun a.length)) :
    whI (a ++ [e]) 0 ((j : Int) + 1) = oB o ∧ whI (a ++ [e]) 3 ((j : Int) + 1) = oC o ∧ whI (a ++ [e]) 4 ((j : Int) + 1) = oA o ∧ (∀ x, rdS (a ++ [e]) ((j : Int) + 1) x = oR x o) ∧ (∀ x, lsI (a ++ [e]) ((j : Int) + 1) x = oW x o) := by
  subst ho
  refine ⟨?_, ?_, ?_, fun x => ?_, fun x => ?_⟩
  · have := h.b j; rw [hn] at this; unfold whI at *; rw [scan_snoc, this]; exact whF_hit hk hj
  · have := h.c3 j; rw [hn] at this; unfold whI at *; rw [scan_snoc, this]; exact whF_kd (by omega)
  · have := h.c4 j; rw [hn] at this; unfold whI at *; rw [scan_snoc, this]; exact whF_kd (by omega)
  · have := h.r j x; rw [hn] at this; unfold rdS at *; rw [scan_snoc, this]; exact rdF_kd (fun q => by omega)
  · have := h.w j x; rw [hn] at this; unfold lsI at *; rw [scan_snoc, this]; exact lsF_kd (fun q => by omega)
theorem Tie.note {a : List Ev} {l : List Cr} (h : Tie a l) (e : Ev) {j : Nat} {c : Cr} (hk : e.kd = 1 ∨ e.kd = 2 ∨ e.kd = 3 ∨ e.kd = 4) (hj : e.id = (j : Int) + 1) (hc : l[j]? = some c) (hv : over c = false) (hm : c.com = false) (hn : a.length < never) {o : Option Cr} (ho : o = some (Hi.note c a.length e)) :
    whI (a ++ [e]) 0 ((j : Int) + 1) = oB o ∧ whI (a ++ [e]) 3 ((j : Int) + 1) = oC o ∧ whI (a ++ [e]) 4 ((j : Int) + 1) = oA o ∧ (∀ x, rdS (a ++ [e]) ((j : Int) + 1) x = oR x o) ∧ (∀ x, lsI (a ++ [e]) ((j : Int) + 1) x = oW x o) := by
  subst ho
  have hb := h.b j
  have h3 := h.c3 j
  have h4 := h.c4 j
  have hr := h.r j
  have hw := h.w j
  rw [hc] at hb h3 h4
  have hr : ∀ x, rdS a ((j : Int) + 1) x = oR x (some c) := fun x => by rw [hr x, hc]
  have hw : ∀ x, lsI a ((j : Int) + 1) x = oW x (some c) := fun x => by rw [hw x, hc]
  have h3 : whI a 3 ((j : Int) + 1) = -1 := by rw [h3]; simp [oC, hm]
  have h4 : whI a 4 ((j : Int) + 1) = -1 := by rw [h4]; simp [oA, hv]
  have hov : over (Hi.note c a.length e) = decide (¬ (e.kd = 1 ∨ e.kd = 2)) := by
    unfold Hi.note
    by_cases k1 : e.kd = 1
    · rw [if_pos k1]; split <;> simp [over, k1] <;> simpa [over] using hv
    · rw [if_neg k1]
      by_cases k2 : e.kd = 2
      · rw [if_pos k2]; simp [over, k2]; simpa [over] using hv
      · rw [if_neg k2]; simp [over, k1, k2]; omega
  have e0 : ∀ kd r id, scan (whF kd id) (-1) a = r → scan (whF kd id) (-1) (a ++ [e]) = whF kd id a.length e r := fun kd r id h => by rw [scan_snoc, h]
  have er : ∀ x, scan (rdF ((j : Int) + 1) x) (-1) (a ++ [e]) = rdF ((j : Int) + 1) x a.length e (oR x (some c)) := fun x => by rw [scan_snoc]; exact congrArg _ (hr x)
  have ew : ∀ x, scan (lsF ((j : Int) + 1) x) (-1) (a ++ [e]) = lsF ((j : Int) + 1) x a.length e (oW x (some c)) := fun x => by rw [scan_snoc]; exact congrArg _ (hw x)
  have g0 : whI (a ++ [e]) 0 ((j : Int) + 1) = (c.b : Int) := by
    refine (e0 _ _ _ hb).trans ?_
    rw [whF_kd (by omega)]; rfl
  refine ⟨?_, ?_, ?_, fun x => ?_, fun x => ?_⟩
  · rw [g0]
    show _ = ((Hi.note c a.length e).b : Int)
    rw [note_b]
  · refine (e0 _ _ _ h3).trans ?_
    by_cases k3 : e.kd = 3
    · rw [whF_hit k3 hj]; unfold Hi.note oC; rw [if_neg (by omega), if_neg (by omega)]; simp [k3]
    · rw [whF_kd k3]
      have : (Hi.note c a.length e).com = false := by
        unfold Hi.note
        by_cases k1 : e.kd = 1
        · rw [if_pos k1]; split <;> exact hm
        · rw [if_neg k1]; split
          · exact hm
          · simpa using k3
      simp [oC, this]
  · refine (e0 _ _ _ h4).trans ?_
    by_cases k4 : e.kd = 4
    · rw [whF_hit k4 hj]
      have : Hi.note c a.length e = ⟨c.b, a.length, decide (e.kd = 3), c.rd, c.wr⟩ := by unfold Hi.note; rw [if_neg (by omega), if_neg (by omega)]
      rw [this]
      simp only [oA, over, k4]
      simp; omega
    · rw [whF_kd k4]
      by_cases k3 : e.kd = 3
      · have : (Hi.note c a.length e).com = true := by unfold Hi.note; rw [if_neg (by omega), if_neg (by omega)]; simpa using k3
        simp [oA, this]
      · have : over (Hi.note c a.length e) = false := by rw [hov]; simp; omega
        simp [oA, this]
  · refine (er x).trans ?_
    by_cases hx : e.x = x ∧ (e.kd = 1 ∨ e.kd = 2)
    · obtain ⟨rfl, k12⟩ := hx
      by_cases hs : oR e.x (some c) = -1
      · have hh := oR_lone hs
        rw [hs]
        unfold rdF
        rw [if_pos rfl]
        by_cases k1 : e.kd = 1
        · unfold Hi.note
          rw [if_neg (by omega), if_pos ⟨hj, rfl, k1⟩, if_pos k1, if_pos hh]
          unfold oR upd
          simp [nI]
        · have k2 : e.kd = 2 := by omega
          unfold Hi.note
          rw [if_pos ⟨hj, rfl, k2⟩, if_neg k1, if_pos k2]
          unfold oR upd
          simp [hh.1]
      · unfold rdF
        rw [if_neg hs]
        by_cases k1 : e.kd = 1
        · unfold Hi.note
          rw [if_pos k1, if_neg (fun hh => hs (oR_lone' hh))]
        · have k2 : e.kd = 2 := by omega
          unfold Hi.note
          rw [if_neg k1, if_pos k2]
          unfold oR at hs ⊢
          unfold upd
          simp only at hs ⊢
          by_cases q : (c.rd e.x).isSome = true
          · rw [if_pos q, if_pos q]
          · rw [if_neg q] at hs ⊢
            rw [if_neg q]
            by_cases q2 : (c.wr e.x).isSome = true
            · rw [if_pos q2]; simp
            · rw [if_neg q2] at hs; exact absurd rfl hs
    · rw [rdF_kd hx]
      unfold Hi.note
      by_cases k1 : e.kd = 1
      · have hx : ¬ x = e.x := fun q => hx ⟨q.symm, .inl k1⟩
        rw [if_pos k1]
        split
        · simp [oR, upd, hx]
        · rfl
      · rw [if_neg k1]
        by_cases k2 : e.kd = 2
        · have hx : ¬ x = e.x := fun q => hx ⟨q.symm, .inr k2⟩
          rw [if_pos k2]
          simp [oR, upd, hx]
        · rw [if_neg k2]
          rfl
  · refine (ew x).trans ?_
    by_cases k2 : e.kd = 2
    · unfold Hi.note
      rw [if_neg (by omega), if_pos k2]
      by_cases hx : e.x = x
      · subst hx
        unfold lsF
        rw [if_pos ⟨hj, rfl, k2⟩]
        simp [oW, upd, nI]
      · rw [lsF_kd (fun q => hx q.1)]
        simp [oW, upd, Ne.symm hx]
    · rw [lsF_kd (fun q => k2 q.2)]
      unfold Hi.note
      rw [if_neg k2]
      split
      · split <;> rfl
      · rfl
theorem tie_run {a : List Ev} {l : List Cr} (h : run 0 [] a = some l) (hn : a.length ≤ 2000) : Tie a l := by
  refine run_ind (P := fun _ a l => a.length ≤ 2000 → Tie a l) (fun _ => tie_nil) ?_ a l h hn
  intro a l e ha ih hf hlen
  have hlen' : a.length ≤ 2000 := by rw [List.length_append] at hlen; simp at hlen; omega
  have ht := ih hlen'
  have hok := (run_ok ha hlen').1
  have key : ∀ j : Nat, whI (a ++ [e]) 0 ((j : Int) + 1) = oB (step l a.length e)[j]? ∧ whI (a ++ [e]) 3 ((j : Int) + 1) = oC (step l a.length e)[j]? ∧ whI (a ++ [e]) 4 ((j : Int) + 1) = oA (step l a.length e)[j]? ∧ (∀ x, rdS (a ++ [e]) ((j : Int) + 1) x = oR x (step l a.length e)[j]?) ∧ (∀ x, lsI (a ++ [e]) ((j : Int) + 1) x = oW x (step l a.length e)[j]?) := by
    intro j
    by_cases h0 : e.kd = 0
    · obtain ⟨hid, _, _⟩ := fits_begin h0 hf
      rw [step_begin a.length h0]
      by_cases hj : j = l.length
      · subst hj
        exact ht.begin e h0 hid (by simp) (by simp)
      · refine ht.same e (by omega) ?_
        by_cases hlt : j < l.length
        · rw [List.getElem?_append_left hlt]
        · rw [List.getElem?_eq_none (by simp; omega), List.getElem?_eq_none (by omega)]
    · obtain ⟨j0, c, hid, hc, hv⟩ := fits_at h0 hf
      rw [step_note a.length h0 hid hc]
      have hl := (List.getElem?_eq_some_iff.1 hc).1
      by_cases hj : j = j0
      · subst hj
        have hk := fits_kd hf
        have hm : c.com = false := by
          cases q : c.com with
          | false => rfl
          | true => exact absurd (show c.e = never by simpa [over] using hv) ((hok c (List.mem_of_getElem? hc)).com q)
        exact ht.note e (by omega) hid hc hv hm (by unfold never; omega) (by rw [List.getElem?_set_self hl])
      · refine ht.same e (by omega) ?_
        rw [List.getElem?_set_ne (Ne.symm hj)]
  exact ⟨fun j => (key j).1, fun j => (key j).2.1, fun j => (key j).2.2.1, fun j => (key j).2.2.2.1, fun j => (key j).2.2.2.2⟩
def oE : Option Cr → Int
  | some c => if over c then (c.e : Int) else -1
  | none => -1
theorem Tie.e {a : List Ev} {l : List Cr} (h : Tie a l) (hok : ∀ c ∈ l, c.com = true → c.e ≠ never) (j : Nat) : enI a ((j : Int) + 1) = oE l[j]? := by
  unfold enI
  rw [h.c3, h.c4]
  cases hc : l[j]? with
  | none => rfl
  | some c =>
    have := hok c (List.mem_of_getElem? hc)
    unfold oC oA oE
    simp only
    cases hm : c.com with
    | true =>
      have hv : over c = true := by simpa [over] using this hm
      rw [hv]
      show max (c.e : Int) (-1) = (c.e : Int)
      omega
    | false =>
      cases hv : over c with
      | true =>
        show max (-1) (c.e : Int) = (c.e : Int)
        omega
      | false => rfl
theorem Tie.rI {a : List Ev} {l : List Cr} (h : Tie a l) {j : Nat} {c : Cr} (hc : l[j]? = some c) (x : Int) : rdI a ((j : Int) + 1) x = nI (c.rd x) := by
  unfold rdI
  rw [h.r, hc]
  unfold oR
  simp only
  by_cases q : (c.rd x).isSome = true
  · have := nI_ge q
    rw [if_pos q, if_neg (by omega)]
  · rw [if_neg q]
    have e : c.rd x = none := by simpa using q
    rw [e]
    by_cases q2 : (c.wr x).isSome = true
    · rw [if_pos q2]; rfl
    · rw [if_neg q2]; rfl
theorem Tie.wI {a : List Ev} {l : List Cr} (h : Tie a l) {j : Nat} {c : Cr} (hc : l[j]? = some c) (x : Int) : wrI a ((j : Int) + 1) x = if c.com then nI (c.wr x) else -1 := by
  unfold wrI
  rw [h.c3, h.w, hc]
  unfold oC oW
  simp only
  cases hm : c.com with
  | true =>
    rw [if_pos rfl, if_pos rfl, if_pos (by omega)]
  | false =>
    rfl
/-- may it come behind others? -/
def fitI (L : List Ev) (e : Ev) (n : Int) : Bool :=
  if e.kd < 0 ∨ 4 < e.kd then false
  else if (e.kd = 1 ∨ e.kd = 2) ∧ (e.x < 0 ∨ 64 ≤ e.x ∨ right e.k e.n = false) then false
  else if ¬ (e.kd = 1 ∨ e.kd = 2) ∧ bare e = false then false
  else if e.kd = 0 then decide (e.id = n + 1) && decide (e.id ≤ 32)
  else decide (1 ≤ e.id) && (decide (e.id ≤ n) && decide (enI L e.id < 0))
theorem oE_neg (c : Cr) : decide (oE (some c) < 0) = !over c := by
  have h : oE (some c) < 0 ↔ over c = false := by
    unfold oE
    simp only
    by_cases hv : over c = true
    · rw [if_pos hv]
      exact ⟨fun q => by omega, fun q => by rw [hv] at q; cases q⟩
    · rw [if_neg hv]
      exact ⟨fun _ => by simpa using hv, fun _ => by omega⟩
  rw [Bool.eq_iff_iff, decide_eq_true_eq, h]
  simp
theorem Tie.live {a : List Ev} {l : List Cr} (h : Tie a l) (hok : ∀ c ∈ l, c.com = true → c.e ≠ never) (id : Int) : live l id = (decide (1 ≤ id) && (decide (id ≤ (l.length : Int)) && decide (enI a id < 0))) := by
  unfold Hi.live
  by_cases h1 : 1 ≤ id
  · by_cases h2 : id ≤ (l.length : Int)
    · have e : id = ((id - 1).toNat : Int) + 1 := by omega
      have hl : (id - 1).toNat < l.length := by omega
      have := h.e hok (id - 1).toNat
      rw [← e] at this
      rw [this, List.getElem?_eq_getElem hl]
      rw [oE_neg]
      rfl
    · simp [h2]
  · simp [h1]
theorem Tie.fits {a : List Ev} {l : List Cr} (h : Tie a l) (hok : ∀ c ∈ l, c.com = true → c.e ≠ never) (e : Ev) : fitI a e (l.length : Int) = fits l e := by
  unfold fitI Hi.fits
  rw [h.live hok]
  by_cases h0 : e.kd = 0
  · rw [if_neg (by omega), if_neg (by omega), if_pos h0, if_pos h0]
    cases bare e <;> simp [h0]
  · by_cases h1 : e.kd = 1 ∨ e.kd = 2
    · rw [if_neg (by omega), if_neg h0, if_pos h1]
      by_cases hx : e.x < 0
      · rw [if_pos ⟨h1, .inl hx⟩]
        have : ¬ 0 ≤ e.x := by omega
        simp [this, h0]
      · have hz : ∀ (P : Prop) [Decidable P] (u v : Bool), (if ¬ (e.kd = 1 ∨ e.kd = 2) ∧ P then u else v) = v := fun P _ u v => if_neg fun q => q.1 h1
        by_cases hx2 : 64 ≤ e.x
        · rw [if_pos ⟨h1, .inr (.inl hx2)⟩]
          have : ¬ e.x < 64 := by omega
          simp [this, h0]
        · cases hr : right e.k e.n with
          | false => rw [if_pos ⟨h1, .inr (.inr rfl)⟩]; simp [h0]
          | true =>
            rw [if_neg (fun q => by rcases q.2 with q | q | q <;> first | omega | cases q), hz, if_neg h0]
            have q1 : 0 ≤ e.x := by omega
            have q2 : e.x < 64 := by omega
            simp [q1, q2]
    · by_cases h3 : e.kd = 3 ∨ e.kd = 4
      · rw [if_neg (by omega), if_neg (fun q => h1 q.1), if_neg h0, if_neg h1, if_pos h3]
        cases bare e <;> simp [h0, h1]
      · rw [if_pos (by omega), if_neg h0, if_neg h1, if_neg h3]
end Go.Proofs.Ytcfdndppkpjleaa.Hi
