/-
  What the document asks of a row of events, in plain mathematics, and how it goes together with the courses.
  Contracts of the document's functions: the first event of a kind, of a transaction; its end; its read and its write of a variable.
  Contracts of the document's functions: the variables that are met; who wrote last; who has to stand ahead by a variable.
  The document's graph and the courses' graph are one.
-/
import Derived.Test.YtaonepbongbhoaaKI
import Derived.Test.YtaonepbongbhoaaKH
import Derived.Test.YtaonepbongbhoaaKE
namespace Go.Proofs.Ytaonepbongbhoaa.Hi
open Tx (i64p right)
/-- what stands behind the events, one after another. -/
def scan {S : Type} (f : Nat → Ev → S → S) (s0 : S) (a : List Ev) : S := (a.foldl (fun p e => (p.1 + 1, f p.1 e p.2)) (0, s0)).2
theorem scan_at {S : Type} (f : Nat → Ev → S → S) (a : List Ev) : ∀ (n : Nat) (s : S), (a.foldl (fun p e => (p.1 + 1, f p.1 e p.2)) (n, s)).1 = n + a.length := by
  induction a with
  | nil => intro n s; rfl
  | cons e a ih =>
    intro n s
    rw [List.foldl_cons, ih, List.length_cons]
    omega
theorem scan_snoc {S : Type} (f : Nat → Ev → S → S) (s0 : S) (a : List Ev) (e : Ev) : scan f s0 (a ++ [e]) = f a.length e (scan f s0 a) := by
  unfold scan
  rw [List.foldl_append]
  change f (List.foldl (fun (p : Nat × S) e => (p.1 + 1, f p.1 e p.2)) (0, s0) a).1 e _ = _
  rw [scan_at, Nat.zero_add]
theorem scan_stay {S : Type} (f : Nat → Ev → S → S) (s0 : S) (a : List Ev) (h : ∀ n e, f n e (scan f s0 a) = scan f s0 a) (b : List Ev) : scan f s0 (a ++ b) = scan f s0 a := by
  refine rev_ind (P := fun b => scan f s0 (a ++ b) = scan f s0 a) ?_ ?_ b
  · rw [List.append_nil]
  · intro b e ih
    rw [← List.append_assoc, scan_snoc, ih, h]
theorem scan_take {S : Type} (f : Nat → Ev → S → S) (s0 : S) {L : List Ev} {k : Nat} {e : Ev} (he : L[k]? = some e) : scan f s0 (L.take (k + 1)) = f k e (scan f s0 (L.take k)) := by
  have hk := (List.getElem?_eq_some_iff.1 he).1
  rw [List.take_add_one, he, Option.toList, scan_snoc, List.length_take, Nat.min_eq_left (by omega)]
theorem scan_rest {S : Type} (f : Nat → Ev → S → S) (s0 : S) (L : List Ev) (k : Nat) (h : ∀ n e, f n e (scan f s0 (L.take k)) = scan f s0 (L.take k)) : scan f s0 L = scan f s0 (L.take k) := by
  have := scan_stay f s0 (L.take k) h (L.drop k)
  rwa [List.take_append_drop] at this
/-- the first one of a kind, of a transaction. -/
def whF (kd id : Int) (n : Nat) (e : Ev) (r : Int) : Int := if r = -1 then (if e.kd = kd ∧ e.id = id then (n : Int) else -1) else r
def whI (L : List Ev) (kd id : Int) : Int := scan (whF kd id) (-1) L
/-- the last write. -/
def lsF (id x : Int) (n : Nat) (e : Ev) (r : Int) : Int := if e.id = id ∧ e.x = x ∧ e.kd = 2 then (n : Int) else r
def lsI (L : List Ev) (id x : Int) : Int := scan (lsF id x) (-1) L
/-- the first read; -2: behind a write. -/
def rdF (id x : Int) (n : Nat) (e : Ev) (r : Int) : Int := if r = -1 then (if e.id = id ∧ e.x = x ∧ e.kd = 2 then -2 else if e.id = id ∧ e.x = x ∧ e.kd = 1 then (n : Int) else -1) else r
def rdS (L : List Ev) (id x : Int) : Int := scan (rdF id x) (-1) L
def rdI (L : List Ev) (id x : Int) : Int := if rdS L id x = -2 then -1 else rdS L id x
def enI (L : List Ev) (id : Int) : Int := max (whI L 3 id) (whI L 4 id)
def wrI (L : List Ev) (id x : Int) : Int := if 0 ≤ whI L 3 id then lsI L id x else -1
theorem whI_hit {L : List Ev} {k : Nat} {e : Ev} {kd id : Int} (he : L[k]? = some e) (h0 : whI (L.take k) kd id = -1) (h : e.kd = kd ∧ e.id = id) : whI L kd id = (k : Int) := by
  have h1 : whI (L.take (k + 1)) kd id = (k : Int) := by
    unfold whI at *
    rw [scan_take _ _ he, h0]; unfold whF; rw [if_pos rfl, if_pos h]
  have := scan_rest (whF kd id) (-1) L (k + 1) (fun n e' => by
    change whF kd id n e' (whI (L.take (k + 1)) kd id) = whI (L.take (k + 1)) kd id
    rw [h1]; unfold whF; rw [if_neg (by omega)])
  exact this.trans h1
theorem whI_miss {L : List Ev} {k : Nat} {e : Ev} {kd id : Int} (he : L[k]? = some e) (h0 : whI (L.take k) kd id = -1) (h : ¬ (e.kd = kd ∧ e.id = id)) : whI (L.take (k + 1)) kd id = -1 := by
  unfold whI at *
  rw [scan_take _ _ he, h0]; unfold whF; rw [if_pos rfl, if_neg h]
theorem rd_hit {L : List Ev} {k : Nat} {e : Ev} {id x r : Int} (he : L[k]? = some e) (h0 : rdS (L.take k) id x = -1) (h : rdF id x k e (-1) = r) (hr : r ≠ -1) : rdS L id x = r := by
  have h1 : rdS (L.take (k + 1)) id x = r := by
    unfold rdS at *
    rw [scan_take _ _ he, h0, h]
  have := scan_rest (rdF id x) (-1) L (k + 1) (fun n e' => by
    change rdF id x n e' (rdS (L.take (k + 1)) id x) = rdS (L.take (k + 1)) id x
    rw [h1]; unfold rdF; rw [if_neg hr])
  exact this.trans h1
theorem rdI_wrote {L : List Ev} {k : Nat} {e : Ev} {id x : Int} (he : L[k]? = some e) (h0 : rdS (L.take k) id x = -1) (h : e.id = id ∧ e.x = x ∧ e.kd = 2) : rdI L id x = -1 := by
  unfold rdI
  rw [rd_hit he h0 (r := -2) (by unfold rdF; rw [if_pos rfl, if_pos h]) (by decide), if_pos rfl]
theorem rdI_read {L : List Ev} {k : Nat} {e : Ev} {id x : Int} (he : L[k]? = some e) (h0 : rdS (L.take k) id x = -1) (h2 : ¬ (e.id = id ∧ e.x = x ∧ e.kd = 2)) (h : e.id = id ∧ e.x = x ∧ e.kd = 1) : rdI L id x = (k : Int) := by
  unfold rdI
  rw [rd_hit he h0 (r := (k : Int)) (by unfold rdF; rw [if_pos rfl, if_neg h2, if_pos h]) (by omega), if_neg (by omega)]
theorem rd_miss {L : List Ev} {k : Nat} {e : Ev} {id x : Int} (he : L[k]? = some e) (h0 : rdS (L.take k) id x = -1) (h2 : ¬ (e.id = id ∧ e.x = x ∧ e.kd = 2)) (h : ¬ (e.id = id ∧ e.x = x ∧ e.kd = 1)) : rdS (L.take (k + 1)) id x = -1 := by
  unfold rdS at *
  rw [scan_take _ _ he, h0]; unfold rdF; rw [if_pos rfl, if_neg h2, if_neg h]
theorem rdI_none {L : List Ev} {id x : Int} (h0 : rdS L id x = -1) : rdI L id x = -1 := by unfold rdI; rw [h0]; rfl
theorem ls_take {L : List Ev} {k : Nat} {e : Ev} {id x : Int} (he : L[k]? = some e) : lsI (L.take (k + 1)) id x = if e.id = id ∧ e.x = x ∧ e.kd = 2 then (k : Int) else lsI (L.take k) id x := by
  unfold lsI
  rw [scan_take _ _ he]; rfl
/- how they go together with the courses -/
def oB : Option Cr → Int
  | some c => (c.b : Int)
  | none => -1
def oC : Option Cr → Int
  | some c => if c.com then (c.e : Int) else -1
  | none => -1
def oA : Option Cr → Int
  | some c => if over c && !c.com then (c.e : Int) else -1
  | none => -1
def nI : Option Nat → Int
  | some k => (k : Int)
  | none => -1
def oR (x : Int) : Option Cr → Int
  | some c => if (c.rd x).isSome = true then nI (c.rd x) else if (c.wr x).isSome = true then -2 else -1
  | none => -1
def oW (x : Int) : Option Cr → Int
  | some c => nI (c.wr x)
  | none => -1
structure Tie (a : List Ev) (l : List Cr) : Prop where
  b : ∀ j : Nat, whI a 0 ((j : Int) + 1) = oB l[j]?
  c3 : ∀ j : Nat, whI a 3 ((j : Int) + 1) = oC l[j]?
  c4 : ∀ j : Nat, whI a 4 ((j : Int) + 1) = oA l[j]?
  r : ∀ (j : Nat) (x : Int), rdS a ((j : Int) + 1) x = oR x l[j]?
  w : ∀ (j : Nat) (x : Int), lsI a ((j : Int) + 1) x = oW x l[j]?
theorem note_b (c : Cr) (n : Nat) (e : Ev) : (note c n e).b = c.b := by
  unfold note
  split
  · split <;> rfl
  · split <;> rfl
theorem nI_ge {o : Option Nat} (h : o.isSome = true) : 0 ≤ nI o := by
  cases o with
  | none => cases h
  | some k => show (0 : Int) ≤ (k : Int); omega
theorem oR_lone {x : Int} {c : Cr} (h : oR x (some c) = -1) : (c.rd x).isSome = false ∧ (c.wr x).isSome = false := by
  unfold oR at h
  simp only at h
  by_cases q : (c.rd x).isSome = true
  · rw [if_pos q] at h; have := nI_ge q; omega
  · rw [if_neg q] at h
    by_cases q2 : (c.wr x).isSome = true
    · rw [if_pos q2] at h; omega
    · exact ⟨by simpa using q, by simpa using q2⟩
theorem oR_lone' {x : Int} {c : Cr} (h : (c.rd x).isSome = false ∧ (c.wr x).isSome = false) : oR x (some c) = -1 := by
  unfold oR
  simp only
  rw [if_neg (by rw [h.1]; decide), if_neg (by rw [h.2]; decide)]
theorem whF_id {kd id : Int} {n : Nat} {e : Ev} {r : Int} (h : e.id ≠ id) : whF kd id n e r = r := by
  unfold whF
  by_cases h1 : r = -1
  · rw [if_pos h1, if_neg (fun q => h q.2), h1]
  · rw [if_neg h1]
theorem whF_kd {kd id : Int} {n : Nat} {e : Ev} {r : Int} (h : e.kd ≠ kd) : whF kd id n e r = r := by
  unfold whF
  by_cases h1 : r = -1
  · rw [if_pos h1, if_neg (fun q => h q.1), h1]
  · rw [if_neg h1]
theorem whF_hit {kd id : Int} {n : Nat} {e : Ev} (h : e.kd = kd) (h2 : e.id = id) : whF kd id n e (-1) = (n : Int) := by
  unfold whF; rw [if_pos rfl, if_pos ⟨h, h2⟩]
theorem rdF_id {id x : Int} {n : Nat} {e : Ev} {r : Int} (h : e.id ≠ id) : rdF id x n e r = r := by
  unfold rdF
  by_cases h1 : r = -1
  · rw [if_pos h1, if_neg (fun q => h q.1), if_neg (fun q => h q.1), h1]
  · rw [if_neg h1]
theorem rdF_kd {id x : Int} {n : Nat} {e : Ev} {r : Int} (h : ¬ (e.x = x ∧ (e.kd = 1 ∨ e.kd = 2))) : rdF id x n e r = r := by
  unfold rdF
  by_cases h1 : r = -1
  · rw [if_pos h1, if_neg (fun q => h ⟨q.2.1, .inr q.2.2⟩), if_neg (fun q => h ⟨q.2.1, .inl q.2.2⟩), h1]
  · rw [if_neg h1]
theorem lsF_id {id x : Int} {n : Nat} {e : Ev} {r : Int} (h : e.id ≠ id) : lsF id x n e r = r := by unfold lsF; rw [if_neg (fun q => h q.1)]
theorem lsF_kd {id x : Int} {n : Nat} {e : Ev} {r : Int} (h : ¬ (e.x = x ∧ e.kd = 2)) : lsF id x n e r = r := by unfold lsF; rw [if_neg (fun q => h q.2)]
theorem tie_nil : Tie [] [] := ⟨fun _ => rfl, fun _ => rfl, fun _ => rfl, fun _ _ => rfl, fun _ _ => rfl⟩
theorem Tie.same {a : List Ev} {l : List Cr} (h : Tie a l) (e : Ev) {j : Nat} (hj : e.id ≠ (j : Int) + 1) {o : Option Cr} (ho : o = l[j]?) :
    whI (a ++ [e]) 0 ((j : Int) + 1) = oB o ∧ whI (a ++ [e]) 3 ((j : Int) + 1) = oC o ∧ whI (a ++ [e]) 4 ((j : Int) + 1) = oA o ∧ (∀ x, rdS (a ++ [e]) ((j : Int) + 1) x = oR x o) ∧ (∀ x, lsI (a ++ [e]) ((j : Int) + 1) x = oW x o) := by
  subst ho
  refine ⟨?_, ?_, ?_, fun x => ?_, fun x => ?_⟩
  · rw [← h.b]; unfold whI; rw [scan_snoc, whF_id hj]
  · rw [← h.c3]; unfold whI; rw [scan_snoc, whF_id hj]
  · rw [← h.c4]; unfold whI; rw [scan_snoc, whF_id hj]
  · rw [← h.r]; unfold rdS; rw [scan_snoc, rdF_id hj]
  · rw [← h.w]; unfold lsI; rw [scan_snoc, lsF_id hj]
theorem Tie.begin {a : List Ev} {l : List Cr} (h : Tie a l) (e : Ev) {j : Nat} (hk : e.kd = 0) (hj : e.id = (j : Int) + 1) (hn : l[j]? = none) {o : Option Cr} (ho : o = some (begun a.length)) :
    whI (a ++ [e]) 0 ((j : Int) + 1) = oB o ∧ whI (a ++ [e]) 3 ((j : Int) + 1) = oC o ∧ whI (a ++ [e]) 4 ((j : Int) + 1) = oA o ∧ (∀ x, rdS (a ++ [e]) ((j : Int) + 1) x = oR x o) ∧ (∀ x, lsI (a ++ [e]) ((j : Int) + 1) x = oW x o) := by
  subst ho
  refine ⟨?_, ?_, ?_, fun x => ?_, fun x => ?_⟩
  · have := h.b j; rw [hn] at this; unfold whI at *; rw [scan_snoc, this]; exact whF_hit hk hj
  · have := h.c3 j; rw [hn] at this; unfold whI at *; rw [scan_snoc, this]; exact whF_kd (by omega)
  · have := h.c4 j; rw [hn] at this; unfold whI at *; rw [scan_snoc, this]; exact whF_kd (by omega)
  · have := h.r j x; rw [hn] at this; unfold rdS at *; rw [scan_snoc, this]; exact rdF_kd (fun q => by omega)
  · have := h.w j x; rw [hn] at this; unfold lsI at *; rw [scan_snoc, this]; exact lsF_kd (fun q => by omega)
theorem Tie.note {a : List Ev} {l : List Cr} (h : Tie a l) (e : Ev) {j : Nat} {c : Cr} (hk : e.kd = 1 ∨ e.kd = 2 ∨ e.kd = 3 ∨ e.kd = 4) (hj : e.id = (j : Int) + 1) (hc : l[j]? = some c) (hv : over c = false) (hm : c.com = false) (hn : a.length < never) {o : Option Cr} (ho : o = some (Hi.note c a.length e)) :
    whI (a ++ [e]) 0 ((j : Int) + 1) = oB o ∧ whI (a ++ [e]) 3 ((j : Int) + 1) = oC o ∧ whI (a ++ [e]) 4 ((j : Int) + 1) = oA o ∧ (∀ x, rdS (a ++ [e]) ((j : Int) + 1) x = oR x o) ∧ (∀ x, lsI (a ++ [e]) ((j : Int) + 1) x = oW x o) := by
  subst ho
  have hb := h.b j
  have h3 := h.c3 j
  have h4 := h.c4 j
  have hr := h.r j
  have hw := h.w j
  rw [hc] at hb h3 h4
  have hr : ∀ x, rdS a ((j : Int) + 1) x = oR x (some c) := fun x => by rw [hr x, hc]
  have hw : ∀ x, lsI a ((j : Int) + 1) x = oW x (some c) := fun x => by rw [hw x, hc]
  have h3 : whI a 3 ((j : Int) + 1) = -1 := by rw [h3]; simp [oC, hm]
  have h4 : whI a 4 ((j : Int) + 1) = -1 := by rw [h4]; simp [oA, hv]
  have hov : over (Hi.note c a.length e) = decide (¬ (e.kd = 1 ∨ e.kd = 2)) := by
    unfold Hi.note
    by_cases k1 : e.kd = 1
    · rw [if_pos k1]; split <;> simp [over, k1] <;> simpa [over] using hv
    · rw [if_neg k1]
      by_cases k2 : e.kd = 2
      · rw [if_pos k2]; simp [over, k2]; simpa [over] using hv
      · rw [if_neg k2]; simp [over, k1, k2]; omega
  have e0 : ∀ kd r id, scan (whF kd id) (-1) a = r → scan (whF kd id) (-1) (a ++ [e]) = whF kd id a.length e r := fun kd r id h => by rw [scan_snoc, h]
  have er : ∀ x, scan (rdF ((j : Int) + 1) x) (-1) (a ++ [e]) = rdF ((j : Int) + 1) x a.length e (oR x (some c)) := fun x => by rw [scan_snoc]; exact congrArg _ (hr x)
  have ew : ∀ x, scan (lsF ((j : Int) + 1) x) (-1) (a ++ [e]) = lsF ((j : Int) + 1) x a.length e (oW x (some c)) := fun x => by rw [scan_snoc]; exact congrArg _ (hw x)
  have g0 : whI (a ++ [e]) 0 ((j : Int) + 1) = (c.b : Int) := by
    refine (e0 _ _ _ hb).trans ?_
    rw [whF_kd (by omega)]; rfl
  refine ⟨?_, ?_, ?_, fun x => ?_, fun x => ?_⟩
  · rw [g0]
    show _ = ((Hi.note c a.length e).b : Int)
    rw [note_b]
  · refine (e0 _ _ _ h3).trans ?_
    by_cases k3 : e.kd = 3
    · rw [whF_hit k3 hj]; unfold Hi.note oC; rw [if_neg (by omega), if_neg (by omega)]; simp [k3]
    · rw [whF_kd k3]
      have : (Hi.note c a.length e).com = false := by
        unfold Hi.note
        by_cases k1 : e.kd = 1
        · rw [if_pos k1]; split <;> exact hm
        · rw [if_neg k1]; split
          · exact hm
          · simpa using k3
      simp [oC, this]
  · refine (e0 _ _ _ h4).trans ?_
    by_cases k4 : e.kd = 4
    · rw [whF_hit k4 hj]
      have : Hi.note c a.length e = ⟨c.b, a.length, decide (e.kd = 3), c.rd, c.wr⟩ := by unfold Hi.note; rw [if_neg (by omega), if_neg (by omega)]
      rw [this]
      simp only [oA, over, k4]
      simp; omega
    · rw [whF_kd k4]
      by_cases k3 : e.kd = 3
      · have : (Hi.note c a.length e).com = true := by unfold Hi.note; rw [if_neg (by omega), if_neg (by omega)]; simpa using k3
        simp [oA, this]
      · have : over (Hi.note c a.length e) = false := by rw [hov]; simp; omega
        simp [oA, this]
  · refine (er x).trans ?_
    by_cases hx : e.x = x ∧ (e.kd = 1 ∨ e.kd = 2)
    · obtain ⟨rfl, k12⟩ := hx
      by_cases hs : oR e.x (some c) = -1
      · have hh := oR_lone hs
        rw [hs]
        unfold rdF
        rw [if_pos rfl]
        by_cases k1 : e.kd = 1
        · unfold Hi.note
          rw [if_neg (by omega), if_pos ⟨hj, rfl, k1⟩, if_pos k1, if_pos hh]
          unfold oR upd
          simp [nI]
        · have k2 : e.kd = 2 := by omega
          unfold Hi.note
          rw [if_pos ⟨hj, rfl, k2⟩, if_neg k1, if_pos k2]
          unfold oR upd
          simp [hh.1]
      · unfold rdF
        rw [if_neg hs]
        by_cases k1 : e.kd = 1
        · unfold Hi.note
          rw [if_pos k1, if_neg (fun hh => hs (oR_lone' hh))]
        · have k2 : e.kd = 2 := by omega
          unfold Hi.note
          rw [if_neg k1, if_pos k2]
          unfold oR at hs ⊢
          unfold upd
          simp only at hs ⊢
          by_cases q : (c.rd e.x).isSome = true
          · rw [if_pos q, if_pos q]
          · rw [if_neg q] at hs ⊢
            rw [if_neg q]
            by_cases q2 : (c.wr e.x).isSome = true
            · rw [if_pos q2]; simp
            · rw [if_neg q2] at hs; exact absurd rfl hs
    · rw [rdF_kd hx]
      unfold Hi.note
      by_cases k1 : e.kd = 1
      · have hx : ¬ x = e.x := fun q => hx ⟨q.symm, .inl k1⟩
        rw [if_pos k1]
        split
        · simp [oR, upd, hx]
        · rfl
      · rw [if_neg k1]
        by_cases k2 : e.kd = 2
        · have hx : ¬ x = e.x := fun q => hx ⟨q.symm, .inr k2⟩
          rw [if_pos k2]
          simp [oR, upd, hx]
        · rw [if_neg k2]
          rfl
  · refine (ew x).trans ?_
    by_cases k2 : e.kd = 2
    · unfold Hi.note
      rw [if_neg (by omega), if_pos k2]
      by_cases hx : e.x = x
      · subst hx
        unfold lsF
        rw [if_pos ⟨hj, rfl, k2⟩]
        simp [oW, upd, nI]
      · rw [lsF_kd (fun q => hx q.1)]
        simp [oW, upd, Ne.symm hx]
    · rw [lsF_kd (fun q => k2 q.2)]
      unfold Hi.note
      rw [if_neg k2]
      split
      · split <;> rfl
      · rfl
theorem tie_run {a : List Ev} {l : List Cr} (h : run 0 [] a = some l) (hn : a.length ≤ 2000) : Tie a l := by
  refine run_ind (P := fun _ a l => a.length ≤ 2000 → Tie a l) (fun _ => tie_nil) ?_ a l h hn
  intro a l e ha ih hf hlen
  have hlen' : a.length ≤ 2000 := by rw [List.length_append] at hlen; simp at hlen; omega
  have ht := ih hlen'
  have hok := (run_ok ha hlen').1
  have key : ∀ j : Nat, whI (a ++ [e]) 0 ((j : Int) + 1) = oB (step l a.length e)[j]? ∧ whI (a ++ [e]) 3 ((j : Int) + 1) = oC (step l a.length e)[j]? ∧ whI (a ++ [e]) 4 ((j : Int) + 1) = oA (step l a.length e)[j]? ∧ (∀ x, rdS (a ++ [e]) ((j : Int) + 1) x = oR x (step l a.length e)[j]?) ∧ (∀ x, lsI (a ++ [e]) ((j : Int) + 1) x = oW x (step l a.length e)[j]?) := by
    intro j
    by_cases h0 : e.kd = 0
    · obtain ⟨hid, _, _⟩ := fits_begin h0 hf
      rw [step_begin a.length h0]
      by_cases hj : j = l.length
      · subst hj
        exact ht.begin e h0 hid (by simp) (by simp)
      · refine ht.same e (by omega) ?_
        by_cases hlt : j < l.length
        · rw [List.getElem?_append_left hlt]
        · rw [List.getElem?_eq_none (by simp; omega), List.getElem?_eq_none (by omega)]
    · obtain ⟨j0, c, hid, hc, hv⟩ := fits_at h0 hf
      rw [step_note a.length h0 hid hc]
      have hl := (List.getElem?_eq_some_iff.1 hc).1
      by_cases hj : j = j0
      · subst hj
        have hk := fits_kd hf
        have hm : c.com = false := by
          cases q : c.com with
          | false => rfl
          | true => exact absurd (show c.e = never by simpa [over] using hv) ((hok c (List.mem_of_getElem? hc)).com q)
        exact ht.note e (by omega) hid hc hv hm (by unfold never; omega) (by rw [List.getElem?_set_self hl])
      · refine ht.same e (by omega) ?_
        rw [List.getElem?_set_ne (Ne.symm hj)]
  exact ⟨fun j => (key j).1, fun j => (key j).2.1, fun j => (key j).2.2.1, fun j => (key j).2.2.2.1, fun j => (key j).2.2.2.2⟩
def oE : Option Cr → Int
  | some c => if over c then (c.e : Int) else -1
  | none => -1
theorem Tie.e {a : List Ev} {l : List Cr} (h : Tie a l) (hok : ∀ c ∈ l, c.com = true → c.e ≠ never) (j : Nat) : enI a ((j : Int) + 1) = oE l[j]? := by
  unfold enI
  rw [h.c3, h.c4]
  cases hc : l[j]? with
  | none => rfl
  | some c =>
    have := hok c (List.mem_of_getElem? hc)
    unfold oC oA oE
    simp only
    cases hm : c.com with
    | true =>
      have hv : over c = true := by simpa [over] using this hm
      rw [hv]
      show max (c.e : Int) (-1) = (c.e : Int)
      omega
    | false =>
      cases hv : over c with
      | true =>
        show max (-1) (c.e : Int) = (c.e : Int)
        omega
      | false => rfl
theorem Tie.rI {a : List Ev} {l : List Cr} (h : Tie a l) {j : Nat} {c : Cr} (hc : l[j]? = some c) (x : Int) : rdI a ((j : Int) + 1) x = nI (c.rd x) := by
  unfold rdI
  rw [h.r, hc]
  unfold oR
  simp only
  by_cases q : (c.rd x).isSome = true
  · have := nI_ge q
    rw [if_pos q, if_neg (by omega)]
  · rw [if_neg q]
    have e : c.rd x = none := by simpa using q
    rw [e]
    by_cases q2 : (c.wr x).isSome = true
    · rw [if_pos q2]; rfl
    · rw [if_neg q2]; rfl
theorem Tie.wI {a : List Ev} {l : List Cr} (h : Tie a l) {j : Nat} {c : Cr} (hc : l[j]? = some c) (x : Int) : wrI a ((j : Int) + 1) x = if c.com then nI (c.wr x) else -1 := by
  unfold wrI
  rw [h.c3, h.w, hc]
  unfold oC oW
  simp only
  cases hm : c.com with
  | true =>
    rw [if_pos rfl, if_pos rfl, if_pos (by omega)]
  | false =>
    rfl
/-- may it come behind others? -/
def fitI (L : List Ev) (e : Ev) (n : Int) : Bool :=
  if e.kd < 0 ∨ 4 < e.kd then false
  else if (e.kd = 1 ∨ e.kd = 2) ∧ (e.x < 0 ∨ 64 ≤ e.x ∨ right e.k e.n = false) then false
  else if ¬ (e.kd = 1 ∨ e.kd = 2) ∧ bare e = false then false
  else if e.kd = 0 then decide (e.id = n + 1) && decide (e.id ≤ 32)
  else decide (1 ≤ e.id) && (decide (e.id ≤ n) && decide (enI L e.id < 0))
theorem oE_neg (c : Cr) : decide (oE (some c) < 0) = !over c := by
  have h : oE (some c) < 0 ↔ over c = false := by
    unfold oE
    simp only
    by_cases hv : over c = true
    · rw [if_pos hv]
      exact ⟨fun q => by omega, fun q => by rw [hv] at q; cases q⟩
    · rw [if_neg hv]
      exact ⟨fun _ => by simpa using hv, fun _ => by omega⟩
  rw [Bool.eq_iff_iff, decide_eq_true_eq, h]
  simp
theorem Tie.live {a : List Ev} {l : List Cr} (h : Tie a l) (hok : ∀ c ∈ l, c.com = true → c.e ≠ never) (id : Int) : live l id = (decide (1 ≤ id) && (decide (id ≤ (l.length : Int)) && decide (enI a id < 0))) := by
  unfold Hi.live
  by_cases h1 : 1 ≤ id
  · by_cases h2 : id ≤ (l.length : Int)
    · have e : id = ((id - 1).toNat : Int) + 1 := by omega
      have hl : (id - 1).toNat < l.length := by omega
      have := h.e hok (id - 1).toNat
      rw [← e] at this
      rw [this, List.getElem?_eq_getElem hl]
      rw [oE_neg]
      rfl
    · simp [h2]
  · simp [h1]
theorem Tie.fits {a : List Ev} {l : List Cr} (h : Tie a l) (hok : ∀ c ∈ l, c.com = true → c.e ≠ never) (e : Ev) : fitI a e (l.length : Int) = fits l e := by
  unfold fitI Hi.fits
  rw [h.live hok]
  by_cases h0 : e.kd = 0
  · rw [if_neg (by omega), if_neg (by omega), if_pos h0, if_pos h0]
    cases bare e <;> simp [h0]
  · by_cases h1 : e.kd = 1 ∨ e.kd = 2
    · rw [if_neg (by omega), if_neg h0, if_pos h1]
      by_cases hx : e.x < 0
      · rw [if_pos ⟨h1, .inl hx⟩]
        have : ¬ 0 ≤ e.x := by omega
        simp [this, h0]
      · have hz : ∀ (P : Prop) [Decidable P] (u v : Bool), (if ¬ (e.kd = 1 ∨ e.kd = 2) ∧ P then u else v) = v := fun P _ u v => if_neg fun q => q.1 h1
        by_cases hx2 : 64 ≤ e.x
        · rw [if_pos ⟨h1, .inr (.inl hx2)⟩]
          have : ¬ e.x < 64 := by omega
          simp [this, h0]
        · cases hr : right e.k e.n with
          | false => rw [if_pos ⟨h1, .inr (.inr rfl)⟩]; simp [h0]
          | true =>
            rw [if_neg (fun q => by rcases q.2 with q | q | q <;> first | omega | cases q), hz, if_neg h0]
            have q1 : 0 ≤ e.x := by omega
            have q2 : e.x < 64 := by omega
            simp [q1, q2]
    · by_cases h3 : e.kd = 3 ∨ e.kd = 4
      · rw [if_neg (by omega), if_neg (fun q => h1 q.1), if_neg h0, if_neg h1, if_pos h3]
        cases bare e <;> simp [h0, h1]
      · rw [if_pos (by omega), if_neg h0, if_neg h1, if_neg h3]
end Go.Proofs.Ytaonepbongbhoaa.Hi
namespace Go.Proofs.Ytaonepbongbhoaa.Hi
open Go.RowKit
open Tx (i64p right)
def WhRel (L : List Ev) (kd id : Int) (w : World) (i : Value) (wr : World) : Prop := ∃ k : Nat, k ≤ L.length ∧ i = .int .i64 k ∧ whI (L.take k) kd id = -1 ∧ wr = w
def ReRel (L : List Ev) (id x : Int) (w : World) (i : Value) (wr : World) : Prop := ∃ k : Nat, k ≤ L.length ∧ i = .int .i64 k ∧ rdS (L.take k) id x = -1 ∧ wr = w
theorem wr_yes {L : List Ev} {id : Int} (h : 0 ≤ whI L 3 id) (x : Int) : wrI L id x = lsI L id x := by unfold wrI; rw [if_pos h]
theorem wr_no {L : List Ev} {id : Int} (h : ¬ 0 ≤ whI L 3 id) (x : Int) : wrI L id x = -1 := by unfold wrI; rw [if_neg h]
def WrRel (L : List Ev) (id x : Int) (w : World) (v i : Value) (wr : World) : Prop := ∃ k : Nat, k ≤ L.length ∧ i = .int .i64 k ∧ v = .int .i64 (if 0 ≤ whI L 3 id then lsI (L.take k) id x else -1) ∧ wr = w
theorem wr_step {L : List Ev} {k : Nat} {e : Ev} {id x r r' : Int} (he : L[k]? = some e) (h : (if 0 ≤ whI L 3 id then lsI (L.take k) id x else -1) = r)
    (h2 : (if 0 ≤ whI L 3 id then (if e.id = id ∧ e.x = x ∧ e.kd = 2 then (k : Int) else r) else r) = r') : (if 0 ≤ whI L 3 id then lsI (L.take (k + 1)) id x else -1) = r' := by
  rw [ls_take he]
  by_cases q : 0 ≤ whI L 3 id
  · rw [if_pos q] at h h2 ⊢
    rw [h]; exact h2
  · rw [if_neg q] at h h2 ⊢
    rw [h]; exact h2
theorem wr_stay {L : List Ev} {k : Nat} {e : Ev} {id x r : Int} (he : L[k]? = some e) (h : (if 0 ≤ whI L 3 id then lsI (L.take k) id x else -1) = r) (hn : ¬ (e.id = id ∧ e.x = x ∧ e.kd = 2)) : (if 0 ≤ whI L 3 id then lsI (L.take (k + 1)) id x else -1) = r :=
  wr_step he h (by
    by_cases q : 0 ≤ whI L 3 id
    · rw [if_pos q, if_neg hn]
    · rw [if_neg q])
end Go.Proofs.Ytaonepbongbhoaa.Hi
namespace Go.Proofs.Ytaonepbongbhoaa.Hi
open Go.RowKit
open Tx (i64p right)
/- the variables -/
def met (L : List Ev) (i : Nat) : Bool := L.any fun e => decide (e.x = (i : Int))
def metA (L : List Ev) : Array Value := ((List.range 64).map fun i => Value.bool (met L i)).toArray
theorem metA_size (L : List Ev) : (metA L).size = 64 := by simp [metA]
theorem metA_get (L : List Ev) (i : Nat) (h : i < 64) : (metA L)[i]? = some (.bool (met L i)) := by simp [metA, h]
theorem metA_nil : metA [] = Array.replicate 64 (Value.bool false) := by
  apply Array.ext_getElem?
  intro i
  by_cases h : i < 64
  · rw [metA_get [] i h]; simp [h, met]
  · rw [Array.getElem?_eq_none (by rw [metA_size]; omega), Array.getElem?_eq_none (by simp; omega)]
theorem metA_step {L : List Ev} {k n : Nat} {e : Ev} (he : L[k]? = some e) (hx : e.x = (n : Int)) (hn : n < 64) : (metA (L.take k)).setIfInBounds n (.bool true) = metA (L.take (k + 1)) := by
  apply Array.ext_getElem?
  intro i
  by_cases h : i < 64
  · rw [Array.getElem?_setIfInBounds, metA_get _ i h, metA_get _ i h, metA_size, Rn.step_take he]
    unfold met
    rw [List.any_append]
    by_cases q : n = i
    · subst q
      simp [hn, hx]
    · have : ¬ ((n : Int) = (i : Int)) := by omega
      simp [q, hx, this]
  · rw [Array.getElem?_eq_none (by simp [metA_size]; omega), Array.getElem?_eq_none (by rw [metA_size]; omega)]
theorem metA_same {L : List Ev} {k : Nat} {e : Ev} (he : L[k]? = some e) (hx : ¬ (0 ≤ e.x ∧ e.x < 64)) : metA (L.take (k + 1)) = metA (L.take k) := by
  apply Array.ext_getElem?
  intro i
  by_cases h : i < 64
  · rw [metA_get _ i h, metA_get _ i h, Rn.step_take he]
    unfold met
    rw [List.any_append]
    have : ¬ (e.x = (i : Int)) := fun q => hx (by omega)
    simp [this]
  · rw [Array.getElem?_eq_none (by rw [metA_size]; omega), Array.getElem?_eq_none (by rw [metA_size]; omega)]
theorem metA_one (L : List Ev) : (metA L).all (·.oneCell') = true := by
  rw [Array.all_eq_true]
  intro i hi
  rw [metA_size] at hi
  have := metA_get L i hi
  rw [Array.getElem?_eq_getElem (by rw [metA_size]; exact hi)] at this
  injection this with this
  rw [this]; rfl
/- who wrote last -/
def wtI (L : List Ev) (x : Int) : Nat → Int
  | 0 => 0
  | k + 1 => match L[k]? with
    | some e => if e.kd = 3 ∧ 0 ≤ wrI L e.id x then e.id else wtI L x k
    | none => wtI L x k
theorem wt_hit {L : List Ev} {x : Int} {k : Nat} {e : Ev} (he : L[k]? = some e) (h : e.kd = 3 ∧ 0 ≤ wrI L e.id x) : wtI L x (k + 1) = e.id := by
  conv => lhs; unfold wtI
  rw [he]; simp only; rw [if_pos h]
theorem wt_skip {L : List Ev} {x : Int} {k : Nat} {e : Ev} (he : L[k]? = some e) (h : ¬ (e.kd = 3 ∧ 0 ≤ wrI L e.id x)) : wtI L x (k + 1) = wtI L x k := by
  conv => lhs; unfold wtI
  rw [he]; simp only; rw [if_neg h]
def WtRel (L : List Ev) (x : Int) (n : Nat) (w : World) (i : Value) (wr : World) : Prop := ∃ (k : Nat) (z : Int), k ≤ n ∧ z = (k : Int) - 1 ∧ i = .int .i64 z ∧ wtI L x k = wtI L x n ∧ wr = w
/- by a variable -/
def ahI (ca cb r s wa wb wt a : Int) : Bool := if 0 ≤ r ∧ wt = a then true else if 0 ≤ wa ∧ 0 ≤ wb ∧ ca < cb then true else decide (0 ≤ s ∧ 0 ≤ wb ∧ s < cb)
def ahead (L : List Ev) (a b x : Int) : Bool := ahI (whI L 3 a) (whI L 3 b) (rdI L b x) (rdI L a x) (wrI L a x) (wrI L b x) (wtI L x (rdI L b x).toNat) a
theorem ah_true1 {ca cb r s wa wb wt a : Int} (h : 0 ≤ r ∧ wt = a) : ahI ca cb r s wa wb wt a = true := by unfold ahI; rw [if_pos h]
theorem ah_true2 {ca cb r s wa wb wt a : Int} (h : 0 ≤ wa ∧ 0 ≤ wb ∧ ca < cb) : ahI ca cb r s wa wb wt a = true := by
  unfold ahI
  by_cases q : 0 ≤ r ∧ wt = a
  · rw [if_pos q]
  · rw [if_neg q, if_pos h]
theorem ah_true3 {ca cb r s wa wb wt a : Int} (h : 0 ≤ s ∧ 0 ≤ wb ∧ s < cb) : ahI ca cb r s wa wb wt a = true := by
  unfold ahI; split
  · rfl
  · split
    · rfl
    · simp [h]
theorem ah_dec {ca cb r s wa wb wt a : Int} (h1 : ¬ (0 ≤ r ∧ wt = a)) (h2 : ¬ (0 ≤ wa ∧ 0 ≤ wb ∧ ca < cb)) (h3 : 0 ≤ s ∧ 0 ≤ wb) : ahI ca cb r s wa wb wt a = decide (s < cb) := by
  unfold ahI; rw [if_neg h1, if_neg h2, decide_eq_decide]
  exact ⟨fun q => q.2.2, fun q => ⟨h3.1, h3.2, q⟩⟩
theorem ah_false {ca cb r s wa wb wt a : Int} (h1 : ¬ (0 ≤ r ∧ wt = a)) (h2 : ¬ (0 ≤ wa ∧ 0 ≤ wb ∧ ca < cb)) (h3 : ¬ (0 ≤ s ∧ 0 ≤ wb ∧ s < cb)) : ahI ca cb r s wa wb wt a = false := by
  unfold ahI; rw [if_neg h1, if_neg h2, decide_eq_false h3]
theorem rdS_lt (L : List Ev) (id x : Int) : rdS L id x < (L.length : Int) := by
  refine rev_ind (P := fun L => rdS L id x < (L.length : Int)) ?_ ?_ L
  · show (-1 : Int) < 0; decide
  · intro a e ih
    unfold rdS at *
    rw [scan_snoc, List.length_append]
    generalize scan (rdF id x) (-1) a = r at ih
    unfold rdF
    simp only [List.length_cons, List.length_nil]
    split
    · split
      · omega
      · split <;> omega
    · omega
theorem rdI_lt (L : List Ev) (id x : Int) : rdI L id x ≤ (L.length : Int) := by
  unfold rdI
  have := rdS_lt L id x
  split <;> omega
end Go.Proofs.Ytaonepbongbhoaa.Hi
namespace Go.Proofs.Ytaonepbongbhoaa.Hi
open Tx (i64p right)
theorem whI_at (L : List Ev) (kd id : Int) : whI L kd id = -1 ∨ ∃ (k : Nat) (e : Ev), whI L kd id = (k : Int) ∧ L[k]? = some e ∧ e.kd = kd ∧ e.id = id := by
  refine rev_ind (P := fun L => whI L kd id = -1 ∨ ∃ (k : Nat) (e : Ev), whI L kd id = (k : Int) ∧ L[k]? = some e ∧ e.kd = kd ∧ e.id = id) (.inl rfl) ?_ L
  intro a e ih
  have hs : whI (a ++ [e]) kd id = whF kd id a.length e (whI a kd id) := scan_snoc _ _ _ _
  rw [hs]
  rcases ih with h | ⟨k, e', h, hk, h1, h2⟩
  · rw [h]
    unfold whF
    rw [if_pos rfl]
    by_cases q : e.kd = kd ∧ e.id = id
    · rw [if_pos q]
      exact .inr ⟨a.length, e, rfl, by simp, q.1, q.2⟩
    · rw [if_neg q]; exact .inl rfl
  · rw [h]
    unfold whF
    rw [if_neg (by omega)]
    exact .inr ⟨k, e', rfl, by rw [List.getElem?_append_left (List.getElem?_eq_some_iff.1 hk).1]; exact hk, h1, h2⟩
theorem rdS_at (L : List Ev) (id x : Int) : rdS L id x < 0 ∨ ∃ (k : Nat) (e : Ev), rdS L id x = (k : Int) ∧ L[k]? = some e ∧ e.kd = 1 ∧ e.x = x := by
  refine rev_ind (P := fun L => rdS L id x < 0 ∨ ∃ (k : Nat) (e : Ev), rdS L id x = (k : Int) ∧ L[k]? = some e ∧ e.kd = 1 ∧ e.x = x) (.inl (by show (-1 : Int) < 0; decide)) ?_ L
  intro a e ih
  have hs : rdS (a ++ [e]) id x = rdF id x a.length e (rdS a id x) := scan_snoc _ _ _ _
  rw [hs]
  rcases ih with h | ⟨k, e', h, hk, h1, h2⟩
  · unfold rdF
    by_cases q : rdS a id x = -1
    · rw [if_pos q]
      by_cases q2 : e.id = id ∧ e.x = x ∧ e.kd = 2
      · rw [if_pos q2]; exact .inl (by decide)
      · rw [if_neg q2]
        by_cases q3 : e.id = id ∧ e.x = x ∧ e.kd = 1
        · rw [if_pos q3]
          exact .inr ⟨a.length, e, rfl, by simp, q3.2.2, q3.2.1⟩
        · rw [if_neg q3]; exact .inl (by decide)
    · rw [if_neg q]; exact .inl h
  · rw [h]
    unfold rdF
    rw [if_neg (by omega)]
    exact .inr ⟨k, e', rfl, by rw [List.getElem?_append_left (List.getElem?_eq_some_iff.1 hk).1]; exact hk, h1, h2⟩
theorem lsI_at (L : List Ev) (id x : Int) : lsI L id x = -1 ∨ ∃ (k : Nat) (e : Ev), lsI L id x = (k : Int) ∧ L[k]? = some e ∧ e.kd = 2 ∧ e.x = x := by
  refine rev_ind (P := fun L => lsI L id x = -1 ∨ ∃ (k : Nat) (e : Ev), lsI L id x = (k : Int) ∧ L[k]? = some e ∧ e.kd = 2 ∧ e.x = x) (.inl rfl) ?_ L
  intro a e ih
  have hs : lsI (a ++ [e]) id x = lsF id x a.length e (lsI a id x) := scan_snoc _ _ _ _
  rw [hs]
  unfold lsF
  by_cases q : e.id = id ∧ e.x = x ∧ e.kd = 2
  · rw [if_pos q]
    exact .inr ⟨a.length, e, rfl, by simp, q.2.2, q.2.1⟩
  · rw [if_neg q]
    rcases ih with h | ⟨k, e', h, hk, h1, h2⟩
    · exact .inl h
    · exact .inr ⟨k, e', h, by rw [List.getElem?_append_left (List.getElem?_eq_some_iff.1 hk).1]; exact hk, h1, h2⟩
theorem met_at {L : List Ev} {k i : Nat} {e : Ev} (he : L[k]? = some e) (hx : e.x = (i : Int)) : met L i = true := by
  unfold met
  rw [List.any_eq_true]
  exact ⟨e, List.mem_of_getElem? he, by simpa using hx⟩
/-- who committed at an event. -/
theorem com_at {a : List Ev} {l : List Cr} (h : run 0 [] a = some l) (hn : a.length ≤ 2000) : ∀ (k : Nat) (e : Ev), a[k]? = some e → e.kd = 3 → ∃ (j : Nat) (c : Cr), e.id = (j : Int) + 1 ∧ l[j]? = some c ∧ c.com = true ∧ c.e = k := by
  refine run_ind (P := fun _ a l => a.length ≤ 2000 → ∀ (k : Nat) (e : Ev), a[k]? = some e → e.kd = 3 → ∃ (j : Nat) (c : Cr), e.id = (j : Int) + 1 ∧ l[j]? = some c ∧ c.com = true ∧ c.e = k) (fun _ k e h => by simp at h) ?_ a l h hn
  intro a l e ha ih hf hlen k e' hk h3
  have hlen' : a.length ≤ 2000 := by rw [List.length_append] at hlen; simp at hlen; omega
  have hlt := (List.getElem?_eq_some_iff.1 hk).1
  rw [List.length_append] at hlt
  simp only [List.length_cons, List.length_nil] at hlt
  rcases Nat.lt_or_ge k a.length with hka | hka
  · rw [List.getElem?_append_left hka] at hk
    obtain ⟨j, c, h1, h2, h4, h5⟩ := ih hlen' k e' hk h3
    refine ⟨j, c, h1, ?_, h4, h5⟩
    by_cases h0 : e.kd = 0
    · rw [step_begin a.length h0, List.getElem?_append_left (List.getElem?_eq_some_iff.1 h2).1]; exact h2
    · obtain ⟨j0, c0, hid, hc, hv⟩ := fits_at h0 hf
      rw [step_note a.length h0 hid hc]
      by_cases q : j0 = j
      · subst q
        rw [h2] at hc
        obtain rfl := Option.some.inj hc
        have : c.e = never := by simpa [over] using hv
        unfold never at this
        omega
      · rw [List.getElem?_set_ne q]; exact h2
  · obtain rfl : k = a.length := by omega
    rw [List.getElem?_append_right (Nat.le_refl _), Nat.sub_self] at hk
    obtain rfl : e = e' := Option.some.inj hk
    obtain ⟨j0, c0, hid, hc, hv⟩ := fits_at (by omega) hf
    rw [step_note a.length (by omega) hid hc]
    refine ⟨j0, note c0 a.length e, hid, by rw [List.getElem?_set_self (List.getElem?_eq_some_iff.1 hc).1], ?_, ?_⟩
    · unfold note; rw [if_neg (by omega), if_neg (by omega)]; simpa using h3
    · unfold note; rw [if_neg (by omega), if_neg (by omega)]
theorem wt_spec (L : List Ev) (x : Int) : ∀ n, n ≤ L.length → (wtI L x n = 0 ∧ ∀ (k : Nat) (e : Ev), k < n → L[k]? = some e → ¬ (e.kd = 3 ∧ 0 ≤ wrI L e.id x)) ∨ ∃ (k : Nat) (e : Ev), k < n ∧ L[k]? = some e ∧ e.kd = 3 ∧ 0 ≤ wrI L e.id x ∧ wtI L x n = e.id ∧ ∀ (k' : Nat) (e' : Ev), k < k' → k' < n → L[k']? = some e' → ¬ (e'.kd = 3 ∧ 0 ≤ wrI L e'.id x)
  | 0, _ => .inl ⟨rfl, fun k e h => by omega⟩
  | n + 1, hn => by
    have he : L[n]? = some L[n] := List.getElem?_eq_getElem (by omega)
    generalize L[n] = e at he
    by_cases q : e.kd = 3 ∧ 0 ≤ wrI L e.id x
    · refine .inr ⟨n, e, by omega, he, q.1, q.2, wt_hit he q, fun k' e' h1 h2 => by omega⟩
    · rw [wt_skip he q]
      have hs : ∀ (k : Nat) (e' : Ev), k < n + 1 → ¬ k < n → L[k]? = some e' → ¬ (e'.kd = 3 ∧ 0 ≤ wrI L e'.id x) := fun k e' h1 h2 h3 => by
        obtain rfl : k = n := by omega
        rw [he] at h3
        obtain rfl := Option.some.inj h3
        exact q
      rcases wt_spec L x n (by omega) with ⟨h0, h1⟩ | ⟨k, e', h0, h1, h2, h3, h4, h5⟩
      · refine .inl ⟨h0, fun k e' hk he' => ?_⟩
        by_cases hkn : k < n
        · exact h1 k e' hkn he'
        · exact hs k e' hk hkn he'
      · refine .inr ⟨k, e', by omega, h1, h2, h3, h4, fun k' e'' hk hk' he'' => ?_⟩
        by_cases hkn : k' < n
        · exact h5 k' e'' hk hkn he''
        · exact hs k' e'' hk' hkn he''
/-- what is known of a row that may be. -/
structure Rw (L : List Ev) (l : List Cr) : Prop where
  run : run 0 [] L = some l
  len : L.length ≤ 2000
theorem Rw.tie {L : List Ev} {l : List Cr} (h : Rw L l) : Tie L l := tie_run h.run h.len
theorem Rw.okc {L : List Ev} {l : List Cr} (h : Rw L l) {j : Nat} {c : Cr} (hc : l[j]? = some c) : Okc L.length c := (run_ok h.run h.len).1 c (List.mem_of_getElem? hc)
theorem Rw.few {L : List Ev} {l : List Cr} (h : Rw L l) : l.length ≤ 32 := (run_ok h.run h.len).2
theorem Rw.com {L : List Ev} {l : List Cr} (h : Rw L l) : ∀ c ∈ l, c.com = true → c.e ≠ never := fun c hc => ((run_ok h.run h.len).1 c hc).com
theorem Rw.le {L : List Ev} {l : List Cr} (h : Rw L l) {j : Nat} {c : Cr} (hc : l[j]? = some c) (x : Int) : 0 ≤ wrI L ((j : Int) + 1) x ↔ left c x = true := by
  rw [h.tie.wI hc]
  unfold left nI
  cases c.com with
  | false => simp
  | true =>
    cases c.wr x with
    | none => simp
    | some k => simp
theorem Rw.comE {L : List Ev} {l : List Cr} (h : Rw L l) {j : Nat} {c : Cr} (hc : l[j]? = some c) (hm : c.com = true) : ∃ e, L[c.e]? = some e ∧ e.kd = 3 ∧ e.id = (j : Int) + 1 := by
  have h3 := h.tie.c3 j
  rw [hc] at h3
  have h3 : whI L 3 ((j : Int) + 1) = (c.e : Int) := by rw [h3]; unfold oC; simp [hm]
  rcases whI_at L 3 ((j : Int) + 1) with q | ⟨k, e, q, hk, h1, h2⟩
  · omega
  · obtain rfl : k = c.e := by omega
    exact ⟨e, hk, h1, h2⟩
theorem Rw.wt {L : List Ev} {l : List Cr} (h : Rw L l) {n : Nat} {er : Ev} (hr : L[n]? = some er) (hk : er.kd = 1) (x : Int) (i : Nat) : wtI L x n = (i : Int) + 1 ↔ (i : Int) = src l x n := by
  have hnl : n ≤ L.length := Nat.le_of_lt (List.getElem?_eq_some_iff.1 hr).1
  have hne : ∀ (j : Nat) (c : Cr), l[j]? = some c → left c x = true → c.e ≤ n → c.e < n ∧ ∃ e, L[c.e]? = some e ∧ e.kd = 3 ∧ 0 ≤ wrI L e.id x ∧ e.id = (j : Int) + 1 := fun j c hc hl he => by
    have hm : c.com = true := by unfold left at hl; simp at hl; exact hl.1
    obtain ⟨e, h1, h2, h3⟩ := h.comE hc hm
    refine ⟨?_, e, h1, h2, by rw [h3]; exact (h.le hc x).2 hl, h3⟩
    rcases Nat.lt_or_ge c.e n with q | q
    · exact q
    · have : c.e = n := by omega
      rw [this, hr] at h1
      obtain rfl := Option.some.inj h1
      omega
  unfold src
  rcases wt_spec L x n hnl with ⟨w0, w1⟩ | ⟨k, e, w0, w1, w2, w3, w4, w5⟩
  · rcases srcTo_spec l x n l.length (Nat.le_refl _) with ⟨s0, s1⟩ | ⟨a, c, s0, s1⟩
    · rw [w0, s0]; omega
    · obtain ⟨h1, e, h2, h3, h4, h5⟩ := hne a c s1.at_ s1.left s1.le
      exact absurd ⟨h3, h4⟩ (w1 _ e h1 h2)
  · obtain ⟨j, c', f1, f2, f3, f4⟩ := com_at h.run h.len k e w1 w2
    have hl : left c' x = true := (h.le f2 x).1 (by rw [← f1]; exact w3)
    rcases srcTo_spec l x n l.length (Nat.le_refl _) with ⟨s0, s1⟩ | ⟨a, c, s0, s1⟩
    · exact absurd ⟨hl, by omega⟩ (s1 j c' (List.getElem?_eq_some_iff.1 f2).1 f2)
    · have ht := s1.top j c' (List.getElem?_eq_some_iff.1 f2).1 f2 hl (by omega)
      obtain ⟨h1, e2, h2, h3, h4, h5⟩ := hne a c s1.at_ s1.left s1.le
      have hek : c.e = k := by
        rcases Nat.lt_or_ge k c.e with q | q
        · exact absurd ⟨h3, h4⟩ (w5 c.e e2 q h1 h2)
        · omega
      rw [hek, w1] at h2
      obtain rfl := Option.some.inj h2
      rw [w4, s0, f1]
      omega
/-- by the document, does i have to stand ahead of k? -/
def Dc (L : List Ev) (i j : Nat) : Prop := (0 ≤ enI L ((i : Int) + 1) ∧ enI L ((i : Int) + 1) < whI L 0 ((j : Int) + 1)) ∨ ∃ x : Nat, x < 64 ∧ met L x = true ∧ ahead L ((i : Int) + 1) ((j : Int) + 1) x = true
theorem ahI_iff (ca cb r s wa wb wt a : Int) : ahI ca cb r s wa wb wt a = true ↔ (0 ≤ r ∧ wt = a) ∨ (0 ≤ wa ∧ 0 ≤ wb ∧ ca < cb) ∨ (0 ≤ s ∧ 0 ≤ wb ∧ s < cb) := by
  unfold ahI
  by_cases h1 : 0 ≤ r ∧ wt = a
  · rw [if_pos h1]; simp [h1]
  · rw [if_neg h1]
    by_cases h2 : 0 ≤ wa ∧ 0 ≤ wb ∧ ca < cb
    · rw [if_pos h2]; simp [h2]
    · rw [if_neg h2, decide_eq_true_eq]
      exact ⟨fun q => .inr (.inr q), fun q => q.elim (fun q => absurd q h1) (fun q => q.elim (fun q => absurd q h2) id)⟩
theorem left_com {c : Cr} {x : Int} (h : left c x = true) : c.com = true ∧ ∃ k, c.wr x = some k := by
  unfold left at h
  simp only [Bool.and_eq_true] at h
  exact ⟨h.1, Option.isSome_iff_exists.1 h.2⟩
theorem nI_iff {o : Option Nat} : 0 ≤ nI o ↔ ∃ n, o = some n := by
  cases o with
  | none => exact ⟨fun h => absurd h (by decide), fun ⟨_, h⟩ => by cases h⟩
  | some k => exact ⟨fun _ => ⟨k, rfl⟩, fun _ => by show (0 : Int) ≤ (k : Int); omega⟩
theorem Rw.rdE {L : List Ev} {l : List Cr} (h : Rw L l) {j : Nat} {c : Cr} (hc : l[j]? = some c) {x : Int} {n : Nat} (hr : c.rd x = some n) : ∃ e, L[n]? = some e ∧ e.kd = 1 ∧ e.x = x := by
  have h3 := h.tie.r j x
  rw [hc] at h3
  have h3 : rdS L ((j : Int) + 1) x = (n : Int) := by rw [h3]; unfold oR nI; simp [hr]
  rcases rdS_at L ((j : Int) + 1) x with q | ⟨k, e, q, hk, h1, h2⟩
  · omega
  · obtain rfl : k = n := by omega
    exact ⟨e, hk, h1, h2⟩
theorem Rw.wrE {L : List Ev} {l : List Cr} (h : Rw L l) {j : Nat} {c : Cr} (hc : l[j]? = some c) {x : Int} {n : Nat} (hr : c.wr x = some n) : ∃ e, L[n]? = some e ∧ e.kd = 2 ∧ e.x = x := by
  have h3 := h.tie.w j x
  rw [hc] at h3
  have h3 : lsI L ((j : Int) + 1) x = (n : Int) := by rw [h3]; unfold oW nI; simp [hr]
  rcases lsI_at L ((j : Int) + 1) x with q | ⟨k, e, q, hk, h1, h2⟩
  · omega
  · obtain rfl : k = n := by omega
    exact ⟨e, hk, h1, h2⟩
theorem Rw.ahead {L : List Ev} {l : List Cr} (h : Rw L l) {i j : Nat} {c d : Cr} (hd : l[i]? = some d) (hc : l[j]? = some c) (x : Int) :
    Hi.ahead L ((i : Int) + 1) ((j : Int) + 1) x = true ↔ (∃ n, c.rd x = some n ∧ (i : Int) = src l x n) ∨ (left d x = true ∧ left c x = true ∧ d.e < c.e) ∨ (∃ n, d.rd x = some n ∧ left c x = true ∧ n < c.e) := by
  unfold Hi.ahead
  rw [ahI_iff, h.tie.rI hc, h.tie.rI hd, h.le hd, h.le hc, nI_iff, nI_iff, h.tie.c3, h.tie.c3, hc, hd]
  refine or_congr ?_ (or_congr ?_ ?_)
  · constructor
    · rintro ⟨⟨n, hn⟩, h2⟩
      rw [hn] at h2
      obtain ⟨e, h3, h4, _⟩ := h.rdE hc hn
      exact ⟨n, hn, (h.wt h3 h4 x i).1 h2⟩
    · rintro ⟨n, hn, h2⟩
      obtain ⟨e, h3, h4, _⟩ := h.rdE hc hn
      refine ⟨⟨n, hn⟩, ?_⟩
      rw [hn]
      exact (h.wt h3 h4 x i).2 h2
  · refine and_congr_right fun h1 => and_congr_right fun h2 => ?_
    simp only [oC, (left_com h1).1, (left_com h2).1, if_true]
    omega
  · constructor
    · rintro ⟨⟨n, hn⟩, h2, h3⟩
      rw [hn] at h3
      simp only [oC, (left_com h2).1, if_true, nI] at h3
      exact ⟨n, hn, h2, by omega⟩
    · rintro ⟨n, hn, h2, h3⟩
      refine ⟨⟨n, hn⟩, h2, ?_⟩
      rw [hn]
      simp only [oC, (left_com h2).1, if_true, nI]
      omega
theorem ge_dc {L : List Ev} {l : List Cr} (h : Rw L l) (i j : Nat) : Ge l i j ↔ i < l.length ∧ j < l.length ∧ i ≠ j ∧ Dc L i j := by
  have hen : ∀ (i : Nat) (d : Cr) (b : Nat), l[i]? = some d → b ≤ 2000 → ((0 ≤ enI L ((i : Int) + 1) ∧ enI L ((i : Int) + 1) < (b : Int)) ↔ d.e < b) := fun i d b hd hb => by
    rw [h.tie.e h.com, hd]
    unfold oE
    simp only
    by_cases hv : over d = true
    · rw [if_pos hv]; omega
    · rw [if_neg hv]
      have : d.e = never := by simpa [over] using hv
      unfold never at this
      omega
  constructor
  · rintro ⟨b, c, hc, ⟨rfl, hne, d, hd, hdo⟩ | ⟨x, n, hr, ⟨rfl, hi, hne⟩ | ⟨rfl, hne, c', hc', hl', hn'⟩⟩⟩
    · have hb := h.tie.b j
      rw [hc] at hb
      have hok := h.okc hc
      refine ⟨(List.getElem?_eq_some_iff.1 hd).1, (List.getElem?_eq_some_iff.1 hc).1, hne, ?_⟩
      rcases hdo with hdo | ⟨ho, x, h1, h2⟩
      · left
        rw [hb]
        have := hok.b
        have := h.len
        exact (hen i d c.b hd (by omega)).2 hdo
      · right
        obtain ⟨k, hk⟩ := (left_com h1).2
        have hx := hok.wr x k hk
        obtain ⟨e, h3, h4, h5⟩ := h.wrE hc hk
        refine ⟨x.toNat, by omega, met_at h3 (by omega), ?_⟩
        rw [Int.toNat_of_nonneg hx.1]
        exact (h.ahead hd hc x).2 (.inr (.inl ⟨h2, h1, ho⟩))
    · have hx := (h.okc hc).rd x n hr
      obtain ⟨e, h3, h4, h5⟩ := h.rdE hc hr
      have hil : i < l.length := by
        rcases srcTo_spec l x n l.length (Nat.le_refl _) with ⟨s0, s1⟩ | ⟨a, c, s0, s1⟩
        · unfold src at hi; omega
        · unfold src at hi
          have : i = a := by omega
          rw [this]; exact s1.lt
      have hd : l[i]? = some l[i] := List.getElem?_eq_getElem hil
      refine ⟨hil, (List.getElem?_eq_some_iff.1 hc).1, hne, .inr ⟨x.toNat, by omega, met_at h3 (by omega), ?_⟩⟩
      rw [Int.toNat_of_nonneg hx.1]
      exact (h.ahead hd hc x).2 (.inl ⟨n, hr, hi⟩)
    · have hx := (h.okc hc).rd x n hr
      obtain ⟨e, h3, h4, h5⟩ := h.rdE hc hr
      refine ⟨(List.getElem?_eq_some_iff.1 hc).1, (List.getElem?_eq_some_iff.1 hc').1, Ne.symm hne, .inr ⟨x.toNat, by omega, met_at h3 (by omega), ?_⟩⟩
      rw [Int.toNat_of_nonneg hx.1]
      exact (h.ahead hc hc' x).2 (.inr (.inr ⟨n, hr, hl', hn'⟩))
  · rintro ⟨hi, hj, hne, hdc⟩
    have hd : l[i]? = some l[i] := List.getElem?_eq_getElem hi
    have hc : l[j]? = some l[j] := List.getElem?_eq_getElem hj
    generalize l[i] = d at hd
    generalize l[j] = c at hc
    have hb := h.tie.b j
    rw [hc] at hb
    have hok := h.okc hc
    rcases hdc with hdc | ⟨x, hx, hm, ha⟩
    · rw [hb] at hdc
      have := hok.b
      have := h.len
      exact ⟨j, c, hc, .inl ⟨rfl, hne, d, hd, .inl ((hen i d c.b hd (by omega)).1 hdc)⟩⟩
    · rcases (h.ahead hd hc x).1 ha with ⟨n, h1, h2⟩ | ⟨h1, h2, h3⟩ | ⟨n, h1, h2, h3⟩
      · exact ⟨j, c, hc, .inr ⟨x, n, h1, .inl ⟨rfl, h2, hne⟩⟩⟩
      · exact ⟨j, c, hc, .inl ⟨rfl, hne, d, hd, .inr ⟨h3, x, h2, h1⟩⟩⟩
      · exact ⟨i, d, hd, .inr ⟨x, n, h1, .inr ⟨rfl, Ne.symm hne, c, hc, h2, h3⟩⟩⟩
end Go.Proofs.Ytaonepbongbhoaa.Hi
