/-
  The document's graph and the courses' graph are one.
-/
import Derived.Test.YtcfdndppkpjleaaHRef2
namespace Go.Proofs.Ytcfdndppkpjleaa.Hi
open Tx (i64p right)
theorem whI_at (L : List Ev) (kd id : Int) : whI L kd id = -1 ∨ ∃ (k : Nat) (e : Ev), whI L kd id = (k : Int) ∧ L[k]? = some e ∧ e.kd = kd ∧ e.id = id := by
  refine rev_ind (P := fun L => whI L kd id = -1 ∨ ∃ (k : Nat) (e : Ev), whI L kd id = (k : Int) ∧ L[k]? = some e ∧ e.kd = kd ∧ e.id = id) (.inl rfl) ?_ L
  intro a e ih
  have hs : whI (a ++ [e]) kd id = whF kd id a.length e (whI a kd id) := scan_snoc _ _ _ _
  rw [hs]
  rcases ih with h | ⟨k, e', h, hk, h1, h2⟩
  · rw [h]
    unfold whF
    rw [if_pos rfl]
    by_cases q : e.kd = kd ∧ e.id = id
    · rw [if_pos q]
      exact .inr ⟨a.length, e, rfl, by simp, q.1, q.2⟩
    · rw [if_neg q]; exact .inl rfl
  · rw [h]
    unfold whF
    rw [if_neg (by omega)]
    exact .inr ⟨k, e', rfl, by rw [List.getElem?_append_left (List.getElem?_eq_some_iff.1 hk).1]; exact hk, h1, h2⟩
theorem rdS_at (L : List Ev) (id x : Int) : rdS L id x < 0 ∨ ∃ (k : Nat) (e : Ev), rdS L id x = (k : Int) ∧ L[k]? = some e ∧ e.kd = 1 ∧ e.x = x := by
  refine rev_ind (P := fun L => rdS L id x < 0 ∨ ∃ (k : Nat) (e : Ev), rdS L id x = (k : Int) ∧ L[k]? = some e ∧ e.kd = 1 ∧ e.x = x) (.inl (by show (-1 : Int) < 0; decide)) ?_ L
  intro a e ih
  have hs : rdS (a ++ [e]) id x = rdF id x a.length e (rdS a id x) := scan_snoc _ _ _ _
  rw [hs]
  rcases ih with h | ⟨k, e', h, hk, h1, h2⟩
  · unfold rdF
    by_cases q : rdS a id x = -1
    · rw [if_pos q]
      by_cases q2 : e.id = id ∧ e.x = x ∧ e.kd = 2
      · rw [if_pos q2]; exact .inl (by decide)
      · rw [if_neg q2]
        by_cases q3 : e.id = id ∧ e.x = x ∧ e.kd = 1
        · rw [if_pos q3]
          exact .inr ⟨a.length, e, rfl, by simp, q3.2.2, q3.2.1⟩
        · rw [if_neg q3]; exact .inl (by decide)
    · rw [if_neg q]; exact .inl h
  · rw [h]
    unfold rdF
    rw [if_neg (by omega)]
    exact .inr ⟨k, e', rfl, by rw [List.getElem?_append_left (List.getElem?_eq_some_iff.1 hk).1]; exact hk, h1, h2⟩
theorem lsI_at (L : List Ev) (id x : Int) : lsI L id x = -1 ∨ ∃ (k : Nat) (e : Ev), lsI L id x = (k : Int) ∧ L[k]? = some e ∧ e.kd = 2 ∧ e.x = x := by
  refine rev_ind (P := fun L => lsI L id x = -1 ∨ ∃ (k : Nat) (e : Ev), lsI L id x = (k : Int) ∧ L[k]? = some e ∧ e.kd = 2 ∧ e.x = x) (.inl rfl) ?_ L
  intro a e ih
  have hs : lsI (a ++ [e]) id x = lsF id x a.length e (lsI a id x) := scan_snoc _ _ _ _
  rw [hs]
  unfold lsF
  by_cases q : e.id = id ∧ e.x = x ∧ e.kd = 2
  · rw [if_pos q]
    exact .inr ⟨a.length, e, rfl, by simp, q.2.2, q.2.1⟩
  · rw [if_neg q]
    rcases ih with h | ⟨k, e', h, hk, h1, h2⟩
    · exact .inl h
    · exact .inr ⟨k, e', h, by rw [List.getElem?_append_left (List.getElem?_eq_some_iff.1 hk).1]; exact hk, h1, h2⟩
theorem met_at {L : List Ev} {k i : Nat} {e : Ev} (he : L[k]? = some e) (hx : e.x = (i : Int)) : met L i = true := by
  unfold met
  rw [List.any_eq_true]
  exact ⟨e, List.mem_of_getElem? he, by simpa using hx⟩
/-- who committed at an event. -/
theorem com_at {a : List Ev} {l : List Cr} (h : run 0 [] a = some l) (hn : a.length ≤ 2000) : ∀ (k : Nat) (e : Ev), a[k]? = some e → e.kd = 3 → ∃ (j : Nat) (c : Cr), e.id = (j : Int) + 1 ∧ l[j]? = some c ∧ c.com = true ∧ c.e = k := by
  refine run_ind (P := fun _ a l => a.length ≤ 2000 → ∀ (k : Nat) (e : Ev), a[k]? = some e → e.kd = 3 → ∃ (j : Nat) (c : Cr), e.id = (j : Int) + 1 ∧ l[j]? = some c ∧ c.com = true ∧ c.e = k) (fun _ k e h => by simp at h) ?_ a l h hn
  intro a l e ha ih hf hlen k e' hk h3
  have hlen' : a.length ≤ 2000 := by rw [List.length_append] at hlen; simp at hlen; omega
  have hlt := (List.getElem?_eq_some_iff.1 hk).1
  rw [List.length_append] at hlt
  simp only [List.length_cons, List.length_nil] at hlt
  rcases Nat.lt_or_ge k a.length with hka | hka
  · rw [List.getElem?_append_left hka] at hk
    obtain ⟨j, c, h1, h2, h4, h5⟩ := ih hlen' k e' hk h3
    refine ⟨j, c, h1, ?_, h4, h5⟩
    by_cases h0 : e.kd = 0
    · rw [step_begin a.length h0, List.getElem?_append_left (List.getElem?_eq_some_iff.1 h2).1]; exact h2
    · obtain ⟨j0, c0, hid, hc, hv⟩ := fits_at h0 hf
      rw [step_note a.length h0 hid hc]
      by_cases q : j0 = j
      · subst q
        rw [h2] at hc
        obtain rfl := Option.some.inj hc
        have : c.e = never := by simpa [over] using hv
        unfold never at this
        omega
      · rw [List.getElem?_set_ne q]; exact h2
  · obtain rfl : k = a.length := by omega
    rw [List.getElem?_append_right (Nat.le_refl _), Nat.sub_self] at hk
    obtain rfl : e = e' := Option.some.inj hk
    obtain ⟨j0, c0, hid, hc, hv⟩ := fits_at (by omega) hf
    rw [step_note a.length (by omega) hid hc]
    refine ⟨j0, note c0 a.length e, hid, by rw [List.getElem?_set_self (List.getElem?_eq_some_iff.1 hc).1], ?_, ?_⟩
    · unfold note; rw [if_neg (by omega), if_neg (by omega)]; simpa using h3
    · unfold note; rw [if_neg (by omega), if_neg (by omega)]
theorem wt_spec (L : List Ev) (x : Int) : ∀ n, n ≤ L.length → (wtI L x n = 0 ∧ ∀ (k : Nat) (e : Ev), k < n → L[k]? = some e → ¬ (e.kd = 3 ∧ 0 ≤ wrI L e.id x)) ∨ ∃ (k : Nat) (e : Ev), k < n ∧ L[k]? = some e ∧ e.kd = 3 ∧ 0 ≤ wrI L e.id x ∧ wtI L x n = e.id ∧ ∀ (k' : Nat) (e' : Ev), k < k' → k' < n → L[k']? = some e' → ¬ (e'.kd = 3 ∧ 0 ≤ wrI L e'.id x)
  | 0, _ => .inl ⟨rfl, fun k e h => by omega⟩
  | n + 1, hn => by
    have he : L[n]? = some L[n] := List.getElem?_eq_getElem (by omega)
    generalize L[n] = e at he
    by_cases q : e.kd = 3 ∧ 0 ≤ wrI L e.id x
    · refine .inr ⟨n, e, by omega, he, q.1, q.2, wt_hit he q, fun k' e' h1 h2 => by omega⟩
    · rw [wt_skip he q]
      have hs : ∀ (k : Nat) (e' : Ev), k < n + 1 → ¬ k < n → L[k]? = some e' → ¬ (e'.kd = 3 ∧ 0 ≤ wrI L e'.id x) := fun k e' h1 h2 h3 => by
        obtain rfl : k = n := by omega
        rw [he] at h3
        obtain rfl := Option.some.inj h3
        exact q
      rcases wt_spec L x n (by omega) with ⟨h0, h1⟩ | ⟨k, e', h0, h1, h2, h3, h4, h5⟩
      · refine .inl ⟨h0, fun k e' hk he' => ?_⟩
        by_cases hkn : k < n
        · exact h1 k e' hkn he'
        · exact hs k e' hk hkn he'
      · refine .inr ⟨k, e', by omega, h1, h2, h3, h4, fun k' e'' hk hk' he'' => ?_⟩
        by_cases hkn : k' < n
        · exact h5 k' e'' hk hkn he''
        · exact hs k' e'' hk' hkn he''
/-- what is known of a row that may be. -/
structure Rw (L : List Ev) (l : List Cr) : Prop where
  run : run 0 [] L = some l
  len : L.length ≤ 2000
theorem Rw.tie {L : List Ev} {l : List Cr} (h : Rw L l) : Tie L l := tie_run h.run h.len
theorem Rw.okc {L : List Ev} {l : List Cr} (h : Rw L l) {j : Nat} {c : Cr} (hc : l[j]? = some c) : Okc L.length c := (run_ok h.run h.len).1 c (List.mem_of_getElem? hc)
theorem Rw.few {L : List Ev} {l : List Cr} (h : Rw L l) : l.length ≤ 32 := (run_ok h.run h.len).2
theorem Rw.com {L : List Ev} {l : List Cr} (h : Rw L l) : ∀ c ∈ l, c.com = true → c.e ≠ never := fun c hc => ((run_ok h.run h.len).1 c hc).com
theorem Rw.le {L : List Ev} {l : List Cr} (h : Rw L l) {j : Nat} {c : Cr} (hc : l[j]? = some c) (x : Int) : 0 ≤ wrI L ((j : Int) + 1) x ↔ left c x = true := by
  rw [h.tie.wI hc]
  unfold left nI
  cases c.com with
  | false => simp
  | true =>
    cases c.wr x with
    | none => simp
    | some k => simp
theorem Rw.comE {L : List Ev} {l : List Cr} (h : Rw L l) {j : Nat} {c : Cr} (hc : l[j]? = some c) (hm : c.com = true) : ∃ e, L[c.e]? = some e ∧ e.kd = 3 ∧ e.id = (j : Int) + 1 := by
  have h3 := h.tie.c3 j
  rw [hc] at h3
  have h3 : whI L 3 ((j : Int) + 1) = (c.e : Int) := by rw [h3]; unfold oC; simp [hm]
  rcases whI_at L 3 ((j : Int) + 1) with q | ⟨k, e, q, hk, h1, h2⟩
  · omega
  · obtain rfl : k = c.e := by omega
    exact ⟨e, hk, h1, h2⟩
theorem Rw.wt {L : List Ev} {l : List Cr} (h : Rw L l) {n : Nat} {er : Ev} (hr : L[n]? = some er) (hk : er.kd = 1) (x : Int) (i : Nat) : wtI L x n = (i : Int) + 1 ↔ (i : Int) = src l x n := by
  have hnl : n ≤ L.length := Nat.le_of_lt (List.getElem?_eq_some_iff.1 hr).1
  have hne : ∀ (j : Nat) (c : Cr), l[j]? = some c → left c x = true → c.e ≤ n → c.e < n ∧ ∃ e, L[c.e]? = some e ∧ e.kd = 3 ∧ 0 ≤ wrI L e.id x ∧ e.id = (j : Int) + 1 := fun j c hc hl he => by
    have hm : c.com = true := by unfold left at hl; simp at hl; exact hl.1
    obtain ⟨e, h1, h2, h3⟩ := h.comE hc hm
    refine ⟨?_, e, h1, h2, by rw [h3]; exact (h.le hc x).2 hl, h3⟩
    rcases Nat.lt_or_ge c.e n with q | q
    · exact q
    · have : c.e = n := by omega
      rw [this, hr] at h1
      obtain rfl := Option.some.inj h1
      omega
  unfold src
  rcases wt_spec L x n hnl with ⟨w0, w1⟩ | ⟨k, e, w0, w1, w2, w3, w4, w5⟩
  · rcases srcTo_spec l x n l.length (Nat.le_refl _) with ⟨s0, s1⟩ | ⟨a, c, s0, s1⟩
    · rw [w0, s0]; omega
    · obtain ⟨h1, e, h2, h3, h4, h5⟩ := hne a c s1.at_ s1.left s1.le
      exact absurd ⟨h3, h4⟩ (w1 _ e h1 h2)
  · obtain ⟨j, c', f1, f2, f3, f4⟩ := com_at h.run h.len k e w1 w2
    have hl : left c' x = true := (h.le f2 x).1 (by rw [← f1]; exact w3)
    rcases srcTo_spec l x n l.length (Nat.le_refl _) with ⟨s0, s1⟩ | ⟨a, c, s0, s1⟩
    · exact absurd ⟨hl, by omega⟩ (s1 j c' (List.getElem?_eq_some_iff.1 f2).1 f2)
    · have ht := s1.top j c' (List.getElem?_eq_some_iff.1 f2).1 f2 hl (by omega)
      obtain ⟨h1, e2, h2, h3, h4, h5⟩ := hne a c s1.at_ s1.left s1.le
      have hek : c.e = k := by
        rcases Nat.lt_or_ge k c.e with q | q
        · exact absurd ⟨h3, h4⟩ (w5 c.e e2 q h1 h2)
        · omega
      rw [hek, w1] at h2
      obtain rfl := Option.some.inj h2
      rw [w4, s0, f1]
      omega
/-- by the document, does i have to stand ahead of k? -/
def Dc (L : List Ev) (i j : Nat) : Prop := (0 ≤ enI L ((i : Int) + 1) ∧ enI L ((i : Int) + 1) < whI L 0 ((j : Int) + 1)) ∨ ∃ x : Nat, x < 64 ∧ met L x = true ∧ ahead L ((i : Int) + 1) ((j : Int) + 1) x = true
theorem ahI_iff (ca cb r s wa wb wt a : Int) : ahI ca cb r s wa wb wt a = true ↔ (0 ≤ r ∧ wt = a) ∨ (0 ≤ wa ∧ 0 ≤ wb ∧ ca < cb) ∨ (0 ≤ s ∧ 0 ≤ wb ∧ s < cb) := by
  unfold ahI
  by_cases h1 : 0 ≤ r ∧ wt = a
  · rw [if_pos h1]; simp [h1]
  · rw [if_neg h1]
    by_cases h2 : 0 ≤ wa ∧ 0 ≤ wb ∧ ca < cb
    · rw [if_pos h2]; simp [h2]
    · rw [if_neg h2, decide_eq_true_eq]
      exact ⟨fun q => .inr (.inr q), fun q => q.elim (fun q => absurd q h1) (fun q => q.elim (fun q => absurd q h2) id)⟩
theorem left_com {c : Cr} {x : Int} (h : left c x = true) : c.com = true ∧ ∃ k, c.wr x = some k := by
  unfold left at h
  simp only [Bool.and_eq_true] at h
  exact ⟨h.1, Option.isSome_iff_exists.1 h.2⟩
theorem nI_iff {o : Option Nat} : 0 ≤ nI o ↔ ∃ n, o = some n := by
  cases o with
  | none => exact ⟨fun h => absurd h (by decide), fun ⟨_, h⟩ => by cases h⟩
  | some k => exact ⟨fun _ => ⟨k, rfl⟩, fun _ => by show (0 : Int) ≤ (k : Int); omega⟩
theorem Rw.rdE {L : List Ev} {l : List Cr} (h : Rw L l) {j : Nat} {c : Cr} (hc : l[j]? = some c) {x : Int} {n : Nat} (hr : c.rd x = some n) : ∃ e, L[n]? = some e ∧ e.kd = 1 ∧ e.x = x := by
  have h3 := h.tie.r j x
  rw [hc] at h3
  have h3 : rdS L ((j : Int) + 1) x = (n : Int) := by rw [h3]; unfold oR nI; simp [hr]
  rcases rdS_at L ((j : Int) + 1) x with q | ⟨k, e, q, hk, h1, h2⟩
  · omega
  · obtain rfl : k = n := by omega
    exact ⟨e, hk, h1, h2⟩
theorem Rw.wrE {L : List Ev} {l : List Cr} (h : Rw L l) {j : Nat} {c : Cr} (hc : l[j]? = some c) {x : Int} {n : Nat} (hr : c.wr x = some n) : ∃ e, L[n]? = some e ∧ e.kd = 2 ∧ e.x = x := by
  have h3 := h.tie.w j x
  rw [hc] at h3
  have h3 : lsI L ((j : Int) + 1) x = (n : Int) := by rw [h3]; unfold oW nI; simp [hr]
  rcases lsI_at L ((j : Int) + 1) x with q | ⟨k, e, q, hk, h1, h2⟩
  · omega
  · obtain rfl : k = n := by omega
    exact ⟨e, hk, h1, h2⟩
theorem Rw.ahead {L : List Ev} {l : List Cr} (h : Rw L l) {i j : Nat} {c d : Cr} (hd : l[i]? = some d) (hc : l[j]? = some c) (x : Int) :
    Hi.ahead L ((i : Int) + 1) ((j : Int) + 1) x = true ↔ (∃ n, c.rd x = some n ∧ (i : Int) = src l x n) ∨ (left d x = true ∧ left c x = true ∧ d.e < c.e) ∨ (∃ n, d.rd x = some n ∧ left c x = true ∧ n < c.e) := by
  unfold Hi.ahead
  rw [ahI_iff, h.tie.rI hc, h.tie.rI hd, h.le hd, h.le hc, nI_iff, nI_iff, h.tie.c3, h.tie.c3, hc, hd]
  refine or_congr ?_ (or_congr ?_ ?_)
  · constructor
    · rintro ⟨⟨n, hn⟩, h2⟩
      rw [hn] at h2
      obtain ⟨e, h3, h4, _⟩ := h.rdE hc hn
      exact ⟨n, hn, (h.wt h3 h4 x i).1 h2⟩
    · rintro ⟨n, hn, h2⟩
      obtain ⟨e, h3, h4, _⟩ := h.rdE hc hn
      refine ⟨⟨n, hn⟩, ?_⟩
      rw [hn]
      exact (h.wt h3 h4 x i).2 h2
  · refine and_congr_right fun h1 => and_congr_right fun h2 => ?_
    simp only [oC, (left_com h1).1, (left_com h2).1, if_true]
    omega
  · constructor
    · rintro ⟨⟨n, hn⟩, h2, h3⟩
      rw [hn] at h3
      simp only [oC, (left_com h2).1, if_true, nI] at h3
      exact ⟨n, hn, h2, by omega⟩
    · rintro ⟨n, hn, h2, h3⟩
      refine ⟨⟨n, hn⟩, h2, ?_⟩
      rw [hn]
      simp only [oC, (left_com h2).1, if_true, nI]
      omega
theorem ge_dc {L : List Ev} {l : List Cr} (h : Rw L l) (i j : Nat) : Ge l i j ↔ i < l.length ∧ j < l.length ∧ i ≠ j ∧ Dc L i j := by
  have hen : ∀ (i : Nat) (d : Cr) (b : Nat), l[i]? = some d → b ≤ 2000 → ((0 ≤ enI L ((i : Int) + 1) ∧ enI L ((i : Int) + 1) < (b : Int)) ↔ d.e < b) := fun i d b hd hb => by
    rw [h.tie.e h.com, hd]
    unfold oE
    simp only
    by_cases hv : over d = true
    · rw [if_pos hv]; omega
    · rw [if_neg hv]
      have : d.e = never := by simpa [over] using hv
      unfold never at this
      omega
  constructor
  · rintro ⟨b, c, hc, ⟨rfl, hne, d, hd, hdo⟩ | ⟨x, n, hr, ⟨rfl, hi, hne⟩ | ⟨rfl, hne, c', hc', hl', hn'⟩⟩⟩
    · have hb := h.tie.b j
      rw [hc] at hb
      have hok := h.okc hc
      refine ⟨(List.getElem?_eq_some_iff.1 hd).1, (List.getElem?_eq_some_iff.1 hc).1, hne, ?_⟩
      rcases hdo with hdo | ⟨ho, x, h1, h2⟩
      · left
        rw [hb]
        have := hok.b
        have := h.len
        exact (hen i d c.b hd (by omega)).2 hdo
      · right
        obtain ⟨k, hk⟩ := (left_com h1).2
        have hx := hok.wr x k hk
        obtain ⟨e, h3, h4, h5⟩ := h.wrE hc hk
        refine ⟨x.toNat, by omega, met_at h3 (by omega), ?_⟩
        rw [Int.toNat_of_nonneg hx.1]
        exact (h.ahead hd hc x).2 (.inr (.inl ⟨h2, h1, ho⟩))
    · have hx := (h.okc hc).rd x n hr
      obtain ⟨e, h3, h4, h5⟩ := h.rdE hc hr
      have hil : i < l.length := by
        rcases srcTo_spec l x n l.length (Nat.le_refl _) with ⟨s0, s1⟩ | ⟨a, c, s0, s1⟩
        · unfold src at hi; omega
        · unfold src at hi
          have : i = a := by omega
          rw [this]; exact s1.lt
      have hd : l[i]? = some l[i] := List.getElem?_eq_getElem hil
      refine ⟨hil, (List.getElem?_eq_some_iff.1 hc).1, hne, .inr ⟨x.toNat, by omega, met_at h3 (by omega), ?_⟩⟩
      rw [Int.toNat_of_nonneg hx.1]
      exact (h.ahead hd hc x).2 (.inl ⟨n, hr, hi⟩)
    · have hx := (h.okc hc).rd x n hr
      obtain ⟨e, h3, h4, h5⟩ := h.rdE hc hr
      refine ⟨(List.getElem?_eq_some_iff.1 hc).1, (List.getElem?_eq_some_iff.1 hc').1, Ne.symm hne, .inr ⟨x.toNat, by omega, met_at h3 (by omega), ?_⟩⟩
      rw [Int.toNat_of_nonneg hx.1]
      exact (h.ahead hc hc' x).2 (.inr (.inr ⟨n, hr, hl', hn'⟩))
  · rintro ⟨hi, hj, hne, hdc⟩
    have hd : l[i]? = some l[i] := List.getElem?_eq_getElem hi
    have hc : l[j]? = some l[j] := List.getElem?_eq_getElem hj
    generalize l[i] = d at hd
    generalize l[j] = c at hc
    have hb := h.tie.b j
    rw [hc] at hb
    have hok := h.okc hc
    rcases hdc with hdc | ⟨x, hx, hm, ha⟩
    · rw [hb] at hdc
      have := hok.b
      have := h.len
      exact ⟨j, c, hc, .inl ⟨rfl, hne, d, hd, .inl ((hen i d c.b hd (by omega)).1 hdc)⟩⟩
    · rcases (h.ahead hd hc x).1 ha with ⟨n, h1, h2⟩ | ⟨h1, h2, h3⟩ | ⟨n, h1, h2, h3⟩
      · exact ⟨j, c, hc, .inr ⟨x, n, h1, .inl ⟨rfl, h2, hne⟩⟩⟩
      · exact ⟨j, c, hc, .inl ⟨rfl, hne, d, hd, .inr ⟨h3, x, h2, h1⟩⟩⟩
      · exact ⟨i, d, hd, .inr ⟨x, n, h1, .inr ⟨rfl, Ne.symm hne, c, hc, h2, h3⟩⟩⟩
end Go.Proofs.Ytcfdndppkpjleaa.Hi
