/-
  What is shown of pools beyond that they stay sound: what goes, goes by a way; if nothing is live everything goes; who begins stands behind what is over.
-/
import Derived.Test.YtakoceablbgchaaDoorPoolMath
namespace Go.Proofs.YtakoceablbgchaaDoor.Po
open Mm Od
/- the slots that go, in their order -/
def gone : Nat → Pl → List Nat
  | 0, _ => []
  | n + 1, p => match next p with
    | none => []
    | some s => s :: gone n (going p s)
def went (p : Pl) : List Nat := gone (Sm.count p.done) p
theorem went_none {p : Pl} (h : next p = none) : went p = [] := by
  unfold went
  cases Sm.count p.done with
  | zero => rfl
  | succ n => simp [gone, h]
theorem went_some {p : Pl} (hd : p.done < 18446744073709551616) {s : Nat} (h : next p = some s) : went p = s :: went (going p s) := by
  have := count_less hd (by have := (next_spec h).1; omega) (next_spec h).2.1
  unfold went
  rw [← this]
  simp only [gone, h]
  rfl
theorem went_ind (P : Pl → List Nat → Pl × List Int → Prop) (h0 : ∀ p, next p = none → P p [] (p, [])) (h1 : ∀ p s l r, p.done < 18446744073709551616 → next p = some s → P (going p s) l r → P p (s :: l) (r.1, p.ids s :: r.2)) :
    ∀ p, p.done < 18446744073709551616 → P p (went p) (collect p) := by
  have key : ∀ n p, Sm.count p.done = n → p.done < 18446744073709551616 → P p (went p) (collect p) := by
    intro n
    induction n using Nat.strongRecOn with
    | ind n ih =>
      intro p hn hd
      cases hx : next p with
      | none => rw [collect_none hx, went_none hx]; exact h0 p hx
      | some s =>
        rw [collect_some hd hx, went_some hd hx]
        have hs := next_spec hx
        have := count_less hd (by omega) hs.2.1
        exact h1 p s _ _ hd hx (ih (Sm.count (going p s).done) (by show Sm.count (Sm.less p.done (s : Nat)) < n; omega) _ rfl (Sm.less_lt _ hd))
  exact fun p hd => key _ p rfl hd
theorem went_done {p : Pl} (h : p.done < 18446744073709551616) : (∀ s, s ∈ went p → s < 32 ∧ p.done.testBit s = true) ∧ (∀ s, (collect p).1.done.testBit s = true ↔ p.done.testBit s = true ∧ s ∉ went p) :=
  went_ind (fun p l r => (∀ s, s ∈ l → s < 32 ∧ p.done.testBit s = true) ∧ (∀ s, r.1.done.testBit s = true ↔ p.done.testBit s = true ∧ s ∉ l))
    (fun p _ => ⟨fun s hs => by simp at hs, fun s => by simp⟩)
    (fun p s l r hd hn ih => by
      have hs := next_spec hn
      refine ⟨fun t ht => ?_, fun t => ?_⟩
      · rw [List.mem_cons] at ht
        rcases ht with rfl | ht
        · exact ⟨hs.1, hs.2.1⟩
        · have := ih.1 t ht
          exact ⟨this.1, ((going_done hd hs.1 t).1 this.2).1⟩
      · rw [ih.2 t, going_done hd hs.1 t, List.mem_cons]
        constructor
        · rintro ⟨⟨h1, h2⟩, h3⟩; exact ⟨h1, fun h => h.elim h2 h3⟩
        · rintro ⟨h1, h2⟩; exact ⟨⟨h1, fun h => h2 (.inl h)⟩, fun h => h2 (.inr h)⟩) p h
theorem went_nodup {p : Pl} (h : p.done < 18446744073709551616) : (went p).Nodup :=
  (went_ind (fun p l _ => l.Nodup ∧ ∀ s, s ∈ l → p.done.testBit s = true) (fun p _ => ⟨List.nodup_nil, fun s hs => by simp at hs⟩)
    (fun p s l r hd hn ih => by
      have hs := next_spec hn
      refine ⟨List.nodup_cons.2 ⟨fun hm => ?_, ih.1⟩, fun t ht => ?_⟩
      · exact ((going_done hd hs.1 s).1 (ih.2 s hm)).2 rfl
      · rw [List.mem_cons] at ht
        rcases ht with rfl | ht
        · exact hs.2.1
        · exact ((going_done hd hs.1 t).1 (ih.2 t ht)).1) p h).1
theorem went_ids {p : Pl} (h : p.done < 18446744073709551616) : (collect p).2 = (went p).map p.ids :=
  (went_ind (fun p l r => r.2 = l.map p.ids ∧ ∀ s, s ∈ l → p.done.testBit s = true) (fun p _ => ⟨rfl, fun s hs => by simp at hs⟩)
    (fun p s l r hd hn ih => by
      have hs := next_spec hn
      refine ⟨?_, fun t ht => ?_⟩
      · show p.ids s :: r.2 = p.ids s :: l.map p.ids
        rw [ih.1]
        refine congrArg (p.ids s :: ·) (List.map_congr_left fun t ht => ?_)
        have := ((going_done hd hs.1 t).1 (ih.2 t ht)).2
        show upd p.ids s 0 t = p.ids t
        unfold upd
        rw [if_neg this]
      · rw [List.mem_cons] at ht
        rcases ht with rfl | ht
        · exact hs.2.1
        · exact ((going_done hd hs.1 t).1 (ih.2 t ht)).1) p h).1
/-- who goes goes behind all that it is behind. -/
theorem went_order {p : Pl} (h : p.done < 18446744073709551616) (hm : Mm.Ok p.m) : ∀ (y b a : Nat), (went p)[y]? = some b → E p.m a b → ∃ x, x < y ∧ (went p)[x]? = some a :=
  went_ind (fun p l _ => Mm.Ok p.m → ∀ (y b a : Nat), l[y]? = some b → E p.m a b → ∃ x, x < y ∧ l[x]? = some a) (fun p _ _ y b a hy => by simp at hy)
    (fun p s l r hd hn ih hm y b a hy he => by
      have hs := next_spec hn
      cases y with
      | zero =>
        simp at hy
        subst hy
        exact absurd he (hs.2.2 a)
      | succ y =>
        rw [List.getElem?_cons_succ] at hy
        by_cases ha : a = s
        · exact ⟨0, by omega, by rw [ha]; rfl⟩
        · by_cases hb : b = s
          · rw [hb] at he; exact absurd he (hs.2.2 a)
          · obtain ⟨x, hx, e⟩ := ih (cut_ok s hm) y b a hy ((cut_E hm hs.1 a b).2 ⟨he, ha, hb⟩)
            exact ⟨x + 1, by omega, by rw [List.getElem?_cons_succ]; exact e⟩) p h hm
/-- nothing that is behind something live goes. -/
theorem went_back {p : Pl} (h : Sound p) {b a : Nat} (hb : b ∈ went p) (hw : W (E p.m) a b) : a ∈ went p := by
  induction hw with
  | one he =>
    obtain ⟨y, hy, e⟩ := List.mem_iff_getElem.1 hb
    obtain ⟨x, _, hx⟩ := went_order h.done64 h.mok y _ _ (by rw [List.getElem?_eq_getElem hy, e]) he
    exact List.mem_of_getElem? hx
  | more _ he ih =>
    obtain ⟨y, hy, e⟩ := List.mem_iff_getElem.1 hb
    obtain ⟨x, _, hx⟩ := went_order h.done64 h.mok y _ _ (by rw [List.getElem?_eq_getElem hy, e]) he
    exact ih (List.mem_of_getElem? hx)
theorem back_live {p : Pl} (h : Sound p) {i : Nat} (hd : p.done.testBit i = true) (hq : (collect p).1.done.testBit i = false) : Mm.ways (fun a b => E p.m b a) i &&& p.live = 0 := by
  apply Sm.ext
  intro j
  rw [Nat.testBit_and]
  cases hw : (Mm.ways (fun a b => E p.m b a) i).testBit j
  · simp
  · have hi : i ∈ went p := by
      apply Classical.byContradiction
      intro hn
      have := ((went_done h.done64).2 i).2 ⟨hd, hn⟩
      rw [hq] at this; cases this
    have := went_back h hi ((flip_way p.m i j).1 ((ways_test _ _ _).1 hw).2)
    cases hl : p.live.testBit j
    · simp
    · exact (h.apart j hl ((went_done h.done64).1 j this).2).elim
/- if nothing is live -/
theorem all_go {p : Pl} (h : Sound p) (hl : p.live = 0) (hn : next p = none) : p.done = 0 := by
  have key : ∀ n : Nat, ∀ s, p.done.testBit s = true → p.o s = (n : Int) → False := by
    intro n
    induction n using Nat.strongRecOn with
    | ind n ih =>
      intro s hs e
      have hs32 := h.tk32 (.inr hs)
      obtain ⟨j, hj⟩ := next_none hn hs32 hs
      have ht := (h.edges j s hj).1
      have hjd : p.done.testBit j = true := by
        rcases ht with h1 | h1
        · rw [hl] at h1; simp at h1
        · exact h1
      have hlt := h.sorted.2 j s hj
      have hp := h.sorted.1.pl hj.1
      rw [hp.1] at hlt
      exact ih (Od.pl p.o j) (by omega) j hjd hp.1
  apply Sm.ext
  intro s
  cases hs : p.done.testBit s
  · simp
  · exact (key _ s hs (h.sorted.1.pl (h.tk32 (.inr hs))).1).elim
theorem none_zero {p : Pl} (h : Sound p) (hl : p.live = 0) (hd : p.done = 0) (i : Nat) (hi : i < 32) : p.m i = 0 := by
  apply Sm.ext
  intro j
  cases hb : (p.m i).testBit j
  · simp
  · have hj := test32 (h.low i hi) hb
    have := (h.edges i j ⟨hi, hj, hb⟩).1
    rcases this with h1 | h1
    · rw [hl] at h1; simp at h1
    · rw [hd] at h1; simp at h1
/- ending all -/
def endTo (q : Pl) (l : List Nat) : Pl := l.foldl (fun p (i : Nat) => (endP p (i : Nat)).1) q
theorem endTo_snoc (q : Pl) (l : List Nat) (k : Nat) : endTo q (l ++ [k]) = (endP (endTo q l) (k : Nat)).1 := by simp [endTo]
theorem endTo_sound {q : Pl} (h : Sound q) (l : List Nat) : Sound (endTo q l) := by
  unfold endTo
  induction l generalizing q with
  | nil => exact h
  | cons c r ih => exact ih (end_sound h _)
theorem endTo_live {q : Pl} (h : Sound q) (l : List Nat) (j : Nat) : (endTo q l).live.testBit j = true ↔ q.live.testBit j = true ∧ j ∉ l := by
  induction l generalizing q with
  | nil => simp [endTo]
  | cons c r ih =>
    have e : endTo q (c :: r) = endTo (endP q (c : Nat)).1 r := rfl
    rw [e, ih (end_sound h _), List.mem_cons]
    have hl := h.live64
    unfold endP
    by_cases hc : Sm.has q.live (c : Nat) = true
    · rw [if_pos hc]
      show (Sm.less q.live (c : Nat)).testBit j = true ∧ j ∉ r ↔ _
      rw [Sm.less_test _ _ hl]
      rw [Sm.has_nat _ hl] at hc
      have := test32 h.live32 hc
      constructor
      · rintro ⟨h1, h2⟩
        simp at h1
        exact ⟨h1.1, fun x => by rcases x with x | x; (have := h1.2; omega); exact h2 x⟩
      · rintro ⟨h1, h2⟩
        refine ⟨?_, fun x => h2 (.inr x)⟩
        rw [h1, decide_eq_false (fun x => h2 (.inl (by omega)))]
        rfl
    · rw [if_neg hc]
      rw [Sm.has_nat _ hl] at hc
      constructor
      · rintro ⟨h1, h2⟩; exact ⟨h1, fun x => by rcases x with x | x; (subst x; exact hc h1); exact h2 x⟩
      · rintro ⟨h1, h2⟩; exact ⟨h1, fun x => h2 (.inr x)⟩
theorem endTo_keeps (q : Pl) (l : List Nat) : (endTo q l).m = q.m ∧ (endTo q l).o = q.o ∧ (endTo q l).count = q.count ∧ (endTo q l).size = q.size ∧ (endTo q l).ids = q.ids := by
  induction l generalizing q with
  | nil => exact ⟨rfl, rfl, rfl, rfl, rfl⟩
  | cons c r ih =>
    have e : endTo q (c :: r) = endTo (endP q (c : Nat)).1 r := rfl
    rw [e]
    have := ih (endP q (c : Nat)).1
    have h2 : (endP q (c : Nat)).1.m = q.m ∧ (endP q (c : Nat)).1.o = q.o ∧ (endP q (c : Nat)).1.count = q.count ∧ (endP q (c : Nat)).1.size = q.size ∧ (endP q (c : Nat)).1.ids = q.ids := by
      unfold endP
      split <;> exact ⟨rfl, rfl, rfl, rfl, rfl⟩
    exact ⟨this.1.trans h2.1, this.2.1.trans h2.2.1, this.2.2.1.trans h2.2.2.1, this.2.2.2.1.trans h2.2.2.2.1, this.2.2.2.2.trans h2.2.2.2.2⟩
theorem endAll_live {q : Pl} (h : Sound q) : (endTo q (Sm.items q.live)).live = 0 := by
  apply Sm.ext
  intro j
  cases hb : (endTo q (Sm.items q.live)).live.testBit j
  · simp
  · have := (endTo_live h _ j).1 hb
    exact (this.2 (Sm.items_mem.2 ⟨by have := test32 h.live32 this.1; omega, this.1⟩)).elim
theorem room {p : Pl} (h : Sound p) (hl : p.live = 0) : (collect p).1.done = 0 ∧ (collect p).1.live = 0 ∧ ∀ i, i < 32 → (collect p).1.m i = 0 := by
  have hs := collect_sound h
  have hk := collect_keeps p h.done64
  have hl' : (collect p).1.live = 0 := hk.1.trans hl
  have hd := all_go hs hl' (collect_next h.done64)
  exact ⟨hd, hl', none_zero hs hl' hd⟩
/- the count of a full pool -/
theorem full_count {p : Pl} (h : Sound p) (hf : ff p = none) : ((Sm.count (p.live ||| p.done) : Nat) : Int) = p.size := by
  have hsz := h.size
  obtain ⟨n, hn⟩ := Int.eq_ofNat_of_zero_le (show 0 ≤ p.size by omega)
  have hn32 : n ≤ 32 := by omega
  have e : Sm.items (p.live ||| p.done) = List.range n := by
    unfold Sm.items
    have h1 : ∀ j, j ∈ List.range 64 → (p.live ||| p.done).testBit j = decide (j < n) := by
      intro j _
      rw [Bool.eq_iff_iff, decide_eq_true_eq, ← tk_or]
      constructor
      · intro ht
        have := h.inn j ht
        omega
      · intro hj
        have := ff_full hf j (by omega)
        unfold freeAt at this
        rw [decide_eq_true (by omega : ((j : Nat) : Int) < p.size)] at this
        rw [tk_or]
        cases hb : (p.live ||| p.done).testBit j
        · rw [hb] at this; simp at this
        · rfl
    rw [List.filter_congr h1]
    have key : ∀ k, n ≤ k → (List.range k).filter (fun j => decide (j < n)) = List.range n := by
      intro k hk
      induction k with
      | zero => obtain rfl : n = 0 := by omega
                rfl
      | succ k ih =>
        rcases Nat.lt_or_ge k n with h1 | h1
        · obtain rfl : n = k + 1 := by omega
          rw [List.filter_eq_self]
          intro a ha
          simpa using ha
        · rw [List.range_succ, List.filter_append, ih h1]
          simp; omega
    exact key 64 (by omega)
  unfold Sm.count
  rw [e, List.length_range]
  omega
/-- who begins stands behind all that are over. -/
theorem begun_behind {p : Pl} (h : Sound p) {s : Nat} (hf : ff p = some s) {i : Nat} (hi : i ∈ Sm.items p.done) : E (begun p s).m i s ∧ (begun p s).o i < (begun p s).o s := by
  have hs := ff_spec hf
  have hI := begun_inv h hs.1 (freeAt_tk hs.2.1).2
  exact ⟨hI.has i hi, hI.sorted.2 i s (hI.has i hi)⟩
/- the document's sound -/
theorem cut_free {p : Pl} (h : Sound p) {i : Nat} (hi : i < 32) (hf : ¬ tk p i) (k : Nat) (hk : k < 32) : cut p.m i k = p.m k := by
  apply Sm.ext
  intro j
  have hno : ∀ a b, E p.m a b → a ≠ i ∧ b ≠ i := fun a b he => ⟨fun e => hf (e ▸ (h.edges a b he).1), fun e => hf (e ▸ (h.edges a b he).2)⟩
  cases hb : (p.m k).testBit j
  · cases hc : (cut p.m i k).testBit j
    · rfl
    · unfold cut at hc
      rw [Sm.less_test _ _ (clr_ok i h.mok k hk), Bool.and_eq_true] at hc
      unfold clr at hc
      split at hc
      · rw [clr_test, hb] at hc; simp at hc
      · rw [hb] at hc; simp at hc
  · have hj := test32 (h.low k hk) hb
    have he : E p.m k j := ⟨hk, hj, hb⟩
    exact ((cut_E h.mok hi k j).2 ⟨he, hno k j he⟩).2.2
end Go.Proofs.YtakoceablbgchaaDoor.Po
