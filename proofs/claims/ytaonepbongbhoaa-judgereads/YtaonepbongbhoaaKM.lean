/-
  Two entries that have nothing to do with one another go either way round.
  One read that has another value: the courses are the same, its entry's read is not what is there.
  Orders that go by a graph, in plain mathematics: of those whose ins all stand already the least one first.
  Orders that fit, in plain mathematics.
  Orders that fit: two that stand side by side; which reads count.
  What more events change of a row of courses, and of its graph: no program in it.
  A row's graph has no way round, and its beginnings' graphs neither; the order that goes by it.
  The order that goes by a row's graph, as it is found: one by one, each cut of the graph.
  An order that has each transaction has each once; what Fits asks for, part by part.
-/
import Derived.Test.YtaonepbongbhoaaKA
import Derived.Test.YtaonepbongbhoaaKL
import Derived.Test.YtaonepbongbhoaaKI
namespace Go.Proofs.Ytaonepbongbhoaa.Jd
open Rp (Ent Vp at_ has lacks denies put next allS allI allN lastW put_at put_len next_len allI_append)
theorem last_some {W : List Tx.Sp} {i : Nat} {s : Tx.Sp} (h : lastW W i = some s) : s ∈ W ∧ s.x.toNat = i := by
  unfold lastW at h
  exact ⟨by simpa using List.mem_of_find?_eq_some h, by simpa using List.find?_some h⟩
theorem last_none {W : List Tx.Sp} {i : Nat} (h : ∀ s ∈ W, s.x.toNat ≠ i) : lastW W i = none := by
  cases q : lastW W i with
  | none => rfl
  | some s => exact absurd (last_some q).2 (h s (last_some q).1)
theorem put_out {S : List Vp} {W : List Tx.Sp} {i : Nat} (h : ∀ s ∈ W, s.x.toNat ≠ i) : (put S W)[i]? = S[i]? := by
  by_cases hi : i < S.length
  · rw [put_at S W i hi, last_none h]
  · rw [List.getElem?_eq_none (by rw [put_len]; omega), List.getElem?_eq_none (by omega)]
theorem put_comm {S : List Vp} {V W : List Tx.Sp} (h : ∀ s ∈ V, ∀ t ∈ W, s.x.toNat ≠ t.x.toNat) : put (put S V) W = put (put S W) V := by
  apply List.ext_getElem?
  intro i
  by_cases hi : i < S.length
  · cases hv : lastW V i with
    | some s =>
      have hs := last_some hv
      have hw : lastW W i = none := last_none fun t ht e => h s hs.1 t ht (by rw [hs.2, e])
      rw [put_at _ W i (by rw [put_len]; exact hi), hw, put_at _ V i hi, hv, put_at _ V i (by rw [put_len]; exact hi), hv]
    | none =>
      rw [put_at _ V i (by rw [put_len]; exact hi), hv, put_at _ W i (by rw [put_len]; exact hi), put_at _ W i hi, put_at _ V i hi, hv]
  · rw [List.getElem?_eq_none (by rw [put_len, put_len]; omega), List.getElem?_eq_none (by rw [put_len, put_len]; omega)]
/-- neither writes what the other one reads or writes; variables are numbers. -/
structure Apart (a b : Ent) : Prop where
  ww : ∀ s ∈ a.wt, ∀ t ∈ b.wt, s.x ≠ t.x
  wr : ∀ s ∈ a.wt, ∀ t ∈ b.rd, s.x ≠ t.x
  rw' : ∀ s ∈ a.rd, ∀ t ∈ b.wt, s.x ≠ t.x
  pos : (∀ s ∈ a.wt, 0 ≤ s.x) ∧ (∀ s ∈ b.wt, 0 ≤ s.x)
theorem Apart.symm {a b : Ent} (h : Apart a b) : Apart b a := ⟨fun s hs t ht e => h.ww t ht s hs e.symm, fun s hs t ht e => h.rw' t ht s hs e.symm, fun s hs t ht e => h.wr t ht s hs e.symm, h.pos.2, h.pos.1⟩
theorem next_out {S : List Vp} {e : Ent} {x : Int} (h : ∀ s ∈ e.wt, s.x ≠ x) (hp : ∀ s ∈ e.wt, 0 ≤ s.x) : at_ (next S e) x = at_ S x := by
  unfold at_
  by_cases hx : 0 ≤ x
  · rw [if_pos hx, if_pos hx]
    unfold next
    split
    · exact put_out fun s hs q => h s hs (by have := hp s hs; omega)
    · rfl
  · rw [if_neg hx, if_neg hx]
theorem fits_same {S T : List Vp} {e : Ent} (hl : S.length = T.length) (h : ∀ s ∈ e.rd, at_ S s.x = at_ T s.x) : Rp.fits S e = Rp.fits T e := by
  have hlk : ∀ s : Tx.Sp, lacks S s = lacks T s := fun s => by unfold lacks has; rw [hl]
  have h1 : e.rd.any (denies S) = e.rd.any (denies T) := by
    rw [Bool.eq_iff_iff, List.any_eq_true, List.any_eq_true]
    exact ⟨fun ⟨s, hs, hd⟩ => ⟨s, hs, by unfold denies at hd ⊢; rw [← hlk, ← h s hs]; exact hd⟩, fun ⟨s, hs, hd⟩ => ⟨s, hs, by unfold denies at hd ⊢; rw [hlk, h s hs]; exact hd⟩⟩
  have h2 : e.wt.any (lacks S) = e.wt.any (lacks T) := by
    rw [Bool.eq_iff_iff, List.any_eq_true, List.any_eq_true]
    exact ⟨fun ⟨s, hs, hd⟩ => ⟨s, hs, by rw [← hlk]; exact hd⟩, fun ⟨s, hs, hd⟩ => ⟨s, hs, by rw [hlk]; exact hd⟩⟩
  unfold Rp.fits
  rw [h1, h2]
theorem fits_next {S : List Vp} {a b : Ent} (h : Apart a b) : Rp.fits (next S a) b = Rp.fits S b :=
  fits_same (next_len _ _) fun s hs => next_out (fun t ht => h.wr t ht s hs) h.pos.1
theorem next_next {S : List Vp} {a b : Ent} (h : Apart a b) : next (next S a) b = next (next S b) a := by
  unfold next
  cases a.com <;> cases b.com <;> simp only [if_true, if_false, Bool.false_eq_true]
  exact put_comm fun s hs t ht e => h.ww s hs t ht (by have := h.pos.1 s hs; have := h.pos.2 t ht; omega)
/-- either way round. -/
theorem all_turn {S : List Vp} {p l : List Ent} {a b : Ent} (h : Apart a b) (hn : allI S (p ++ a :: b :: l) = none) : allI S (p ++ b :: a :: l) = none := by
  rw [allI_append] at hn ⊢
  cases hp : allI S p with
  | some k => rw [hp] at hn; cases hn
  | none =>
    rw [hp] at hn
    simp only [Option.none_or] at hn ⊢
    generalize allS S p = T at hn ⊢
    rw [Option.map_eq_none_iff] at hn ⊢
    unfold allI at hn
    by_cases ha : Rp.fits T a = true
    · rw [if_pos ha, Option.map_eq_none_iff] at hn
      unfold allI at hn
      by_cases hb : Rp.fits (next T a) b = true
      · rw [if_pos hb, Option.map_eq_none_iff] at hn
        rw [fits_next h] at hb
        unfold allI
        rw [if_pos hb]
        unfold allI
        rw [if_pos (by rw [fits_next h.symm]; exact ha), ← next_next h, hn]
        rfl
      · rw [if_neg hb] at hn; cases hn
    · rw [if_neg ha] at hn; cases hn
end Go.Proofs.Ytaonepbongbhoaa.Jd
namespace Go.Proofs.Ytaonepbongbhoaa.Jd
open Hi (Ev Cr crs crL run fits note bare entC entF entL stOf stepsF Rw)
open Rp (Ent Vp at_ denies allS allI allI_append)
/-- all that a course hangs on. -/
def face (e : Ev) : Int × Int × Int × Bool × Bool := (e.kd, e.id, e.x, Tx.right e.k e.n, bare e)
theorem face_fits {l : List Cr} {e f : Ev} (h : face e = face f) : fits l e = fits l f := by
  unfold face at h
  simp only [Prod.mk.injEq] at h
  obtain ⟨h1, h2, h3, h4, h5⟩ := h
  unfold fits
  rw [h1, h2, h3, h4, h5]
theorem face_note {c : Cr} {n : Nat} {e f : Ev} (h : face e = face f) : note c n e = note c n f := by
  unfold face at h
  simp only [Prod.mk.injEq] at h
  obtain ⟨h1, h2, h3, _, _⟩ := h
  unfold note
  rw [h1, h3]
theorem face_step {l : List Cr} {n : Nat} {e f : Ev} (h : face e = face f) : Hi.step l n e = Hi.step l n f := by
  have h' := h
  unfold face at h'
  simp only [Prod.mk.injEq] at h'
  unfold Hi.step
  rw [h'.1, h'.2.1]
  split
  · rfl
  · split
    · rw [face_note h]
    · rfl
theorem face_run : ∀ (L M : List Ev) (n : Nat) (l : List Cr), L.map face = M.map face → run n l L = run n l M
  | [], [], _, _, _ => rfl
  | [], _ :: _, _, _, h => by cases h
  | _ :: _, [], _, _, h => by cases h
  | e :: L, f :: M, n, l, h => by
    rw [List.map_cons, List.map_cons] at h
    obtain ⟨h1, h2⟩ := List.cons.inj h
    unfold run
    rw [face_fits h1, face_step h1, face_run L M (n + 1) (Hi.step l n f) h2]
theorem face_crs {L M : List Ev} (h : L.map face = M.map face) : crs L = crs M := by
  have hl : L.length = M.length := by have := congrArg List.length h; simpa using this
  unfold crs
  rw [hl, face_run L M 0 [] h]
theorem face_set {L : List Ev} {k : Nat} {e f : Ev} (he : L[k]? = some e) (h : face f = face e) : (L.set k f).map face = L.map face := by
  rw [List.map_set, h]
  apply List.ext_getElem?
  intro i
  rw [List.getElem?_set]
  split
  · rename_i hi
    subst hi
    rw [List.getElem?_map, he]
    have := (List.getElem?_eq_some_iff.1 he).1
    simp [this]
  · rfl
theorem st_other {L : List Ev} {k m : Nat} {f : Ev} {x : Int} (h : m ≠ k) : stOf (L.set k f) x m = stOf L x m := by
  unfold stOf
  rw [List.getElem?_set_ne (Ne.symm h)]
theorem steps_other {L : List Ev} {k : Nat} {f : Ev} {g : Int → Option Nat} (h : ∀ x, g x ≠ some k) : stepsF (L.set k f) g = stepsF L g := by
  unfold stepsF
  refine Tx.rise_congr fun x _ => ?_
  cases hg : g (x : Int) with
  | none => rfl
  | some m => rw [Option.map_some, Option.map_some, st_other (fun e => h x (by rw [hg, e]))]
/-- the one that the event is a read of has another read; nobody else is changed. -/
theorem ent_other {L : List Ev} {k i : Nat} {f : Ev} {c : Cr} (h1 : ∀ x, c.rd x ≠ some k) (h2 : ∀ x, c.wr x ≠ some k) : entC (L.set k f) i c = entC L i c := by
  unfold entC
  rw [steps_other h1, steps_other h2]
theorem rd_mem {L : List Ev} {c : Cr} {x : Int} {k : Nat} (h : c.rd x = some k) (hx : 0 ≤ x ∧ x < 64) (i : Nat) : stOf L x k ∈ (entC L i c).rd := by
  unfold entC stepsF
  simp only
  refine Hi.mem_rise_iff.2 ⟨x.toNat, by omega, ?_⟩
  rw [Int.toNat_of_nonneg hx.1, h]
  rfl
/-- it does not fit where it did. -/
theorem read_denied {L : List Ev} {k i : Nat} {e f : Ev} {c : Cr} {S : List Vp} (he : L[k]? = some e) (hr : c.rd e.x = some k) (hx : 0 ≤ e.x ∧ e.x < 64) (hv : (f.k, f.n) ≠ (e.k, e.n)) (hf : Rp.fits S (entC L i c) = true) : Rp.fits S (entC (L.set k f) i c) = false := by
  have hlt := (List.getElem?_eq_some_iff.1 he).1
  have m1 := rd_mem (L := L) hr hx i
  have m2 := rd_mem (L := L.set k f) hr hx i
  have s1 : stOf L e.x k = ⟨e.x, e.k, e.n, decide (e.kd = 2)⟩ := by unfold stOf; rw [he]
  have s2 : stOf (L.set k f) e.x k = ⟨e.x, f.k, f.n, decide (f.kd = 2)⟩ := by unfold stOf; rw [List.getElem?_set_self hlt]
  rw [s1] at m1
  rw [s2] at m2
  unfold Rp.fits at hf ⊢
  rw [Bool.and_eq_true, Bool.not_eq_true', List.any_eq_false] at hf
  have hd := hf.1 _ m1
  have hat : at_ S e.x = some (e.k, e.n) := by
    unfold denies at hd
    simp only [Bool.or_eq_true, decide_eq_true_eq, not_or, Decidable.not_not] at hd
    exact hd.2
  have : (entC (L.set k f) i c).rd.any (denies S) = true := by
    rw [List.any_eq_true]
    refine ⟨_, m2, ?_⟩
    unfold denies
    simp only [Bool.or_eq_true, decide_eq_true_eq]
    right
    rw [hat]
    exact fun q => hv (Option.some.inj q).symm
  rw [this]
  rfl
/-- behind one that does not fit nothing goes. -/
theorem all_stops {S : List Vp} {p l : List Ent} {a : Ent} (hp : allI S p = none) (h : Rp.fits (allS S p) a = false) : allI S (p ++ a :: l) ≠ none := by
  rw [allI_append, hp]
  unfold allI
  rw [if_neg (by rw [h]; decide)]
  simp
theorem all_front {S : List Vp} {p l : List Ent} {a : Ent} (h : allI S (p ++ a :: l) = none) : allI S p = none ∧ Rp.fits (allS S p) a = true := by
  rw [allI_append] at h
  cases hp : allI S p with
  | some k => rw [hp] at h; cases h
  | none =>
    refine ⟨rfl, ?_⟩
    rw [hp] at h
    cases hf : Rp.fits (allS S p) a with
    | true => rfl
    | false =>
      unfold allI at h
      rw [hf] at h
      simp at h
end Go.Proofs.Ytaonepbongbhoaa.Jd
namespace Go.Proofs.Ytaonepbongbhoaa.Jd
theorem min_ex {α : Type} {R : α → α → Prop} (ht : ∀ a b c, R a b → R b c → R a c) (hi : ∀ a, ¬ R a a) : ∀ S : List α, S ≠ [] → ∃ y, y ∈ S ∧ ∀ z ∈ S, ¬ R z y
  | [], h => absurd rfl h
  | x :: S, _ => by
    by_cases hS : S = []
    · subst hS
      exact ⟨x, by simp, fun z hz => by rw [List.mem_singleton] at hz; subst hz; exact hi z⟩
    · obtain ⟨y, hy, hm⟩ := min_ex ht hi S hS
      by_cases hxy : R x y
      · refine ⟨x, by simp, fun z hz hzx => ?_⟩
        rcases List.mem_cons.1 hz with rfl | hz
        · exact hi _ hzx
        · exact hm z hz (ht _ _ _ hzx hxy)
      · refine ⟨y, by simp [hy], fun z hz => ?_⟩
        rcases List.mem_cons.1 hz with rfl | hz
        · exact hxy
        · exact hm z hz
/-- it does not stand yet, and all its ins do. -/
def rdy (e : Nat → Nat → Bool) (n : Nat) (had : List Nat) (i : Nat) : Bool := !had.contains i && (List.range n).all fun k => !e k i || had.contains k
def nextO (e : Nat → Nat → Bool) (n : Nat) (had : List Nat) : Option Nat := (List.range n).find? (rdy e n had)
def findT (e : Nat → Nat → Bool) (n : Nat) : Nat → List Nat → List Nat
  | 0, had => had
  | f + 1, had => match nextO e n had with
    | some i => findT e n f (had ++ [i])
    | none => had
def findO (e : Nat → Nat → Bool) (n : Nat) : List Nat := findT e n n []
theorem rdy_iff {e : Nat → Nat → Bool} {n : Nat} {had : List Nat} {i : Nat} : rdy e n had i = true ↔ i ∉ had ∧ ∀ k, k < n → e k i = true → k ∈ had := by
  unfold rdy
  rw [Bool.and_eq_true, List.all_eq_true]
  refine and_congr (by simp) ?_
  constructor
  · intro h2 k hk he
    have := h2 k (List.mem_range.2 hk)
    rw [he] at this
    simpa using this
  · intro h2 k hk
    cases he : e k i with
    | false => rfl
    | true => simpa using h2 k (List.mem_range.1 hk) he
/-- the least one that is ready. -/
theorem next_iff {e : Nat → Nat → Bool} {n : Nat} {had : List Nat} {i : Nat} : nextO e n had = some i ↔ i < n ∧ rdy e n had i = true ∧ ∀ j, j < i → rdy e n had j = false := by
  unfold nextO
  rw [List.find?_range_eq_some, List.mem_range]
  constructor
  · intro h; exact ⟨h.2.1, h.1, fun j hj => by simpa using h.2.2 j hj⟩
  · intro h; exact ⟨h.2.1, h.1, fun j hj => by simpa using h.2.2 j hj⟩
theorem next_none {e : Nat → Nat → Bool} {n : Nat} {had : List Nat} (h : nextO e n had = none) : ∀ i, i < n → rdy e n had i = false := fun i hi => by
  unfold nextO at h
  rw [List.find?_eq_none] at h
  simpa using h i (List.mem_range.2 hi)
/-- there is no way round among the first n. -/
def Acy (e : Nat → Nat → Bool) (n : Nat) : Prop := ∀ i, ¬ Mm.W (fun a b => a < n ∧ b < n ∧ e a b = true) i i
theorem next_ex {e : Nat → Nat → Bool} {n : Nat} {had : List Nat} (ha : Acy e n) (h : ∃ i, i < n ∧ i ∉ had) : ∃ i, nextO e n had = some i := by
  cases hn : nextO e n had with
  | some i => exact ⟨i, rfl⟩
  | none =>
    have hno := next_none hn
    obtain ⟨i, hi, hh⟩ := h
    obtain ⟨y, hy, hm⟩ := min_ex (R := Mm.W (fun a b => a < n ∧ b < n ∧ e a b = true)) (fun _ _ _ => Mm.W.trans) ha ((List.range n).filter fun k => !had.contains k) (fun h => by
      have : i ∈ (List.range n).filter fun k => !had.contains k := by
        rw [List.mem_filter]
        refine ⟨List.mem_range.2 hi, ?_⟩
        simpa using hh
      rw [h] at this; cases this)
    rw [List.mem_filter, List.mem_range] at hy
    have hyn : y ∉ had := by simpa using hy.2
    have := hno y hy.1
    rw [← Bool.not_eq_true, rdy_iff] at this
    refine absurd ⟨hyn, fun k hk he => ?_⟩ this
    by_cases hkh : k ∈ had
    · exact hkh
    · exact absurd (Mm.W.one ⟨hk, hy.1, he⟩) (hm k (by rw [List.mem_filter]; exact ⟨List.mem_range.2 hk, by simpa using hkh⟩))
/-- each once, and behind all its ins. -/
structure Good (e : Nat → Nat → Bool) (n : Nat) (l : List Nat) : Prop where
  nd : l.Nodup
  lt : ∀ i ∈ l, i < n
  fw : ∀ (p i k : Nat), l[p]? = some i → k < n → e k i = true → k ∈ l.take p
theorem good_nil (e : Nat → Nat → Bool) (n : Nat) : Good e n [] := ⟨List.nodup_nil, by simp, by simp⟩
theorem Good.snoc {e : Nat → Nat → Bool} {n : Nat} {l : List Nat} {i : Nat} (h : Good e n l) (hn : nextO e n l = some i) : Good e n (l ++ [i]) := by
  obtain ⟨hi, hr, _⟩ := next_iff.1 hn
  obtain ⟨h1, h2⟩ := rdy_iff.1 hr
  refine ⟨?_, ?_, ?_⟩
  · rw [List.nodup_append]
    exact ⟨h.nd, by simp, fun a ha b hb e => by rw [List.mem_singleton] at hb; subst hb; subst e; exact h1 ha⟩
  · intro j hj
    rcases List.mem_append.1 hj with hj | hj
    · exact h.lt j hj
    · rw [List.mem_singleton] at hj; subst hj; exact hi
  · intro p j k hp hk he
    rcases Nat.lt_or_ge p l.length with hlt | hge
    · rw [List.getElem?_append_left hlt] at hp
      rw [List.take_append_of_le_length (Nat.le_of_lt hlt)]
      exact h.fw p j k hp hk he
    · have hpl := (List.getElem?_eq_some_iff.1 hp).1
      rw [List.length_append] at hpl
      simp only [List.length_cons, List.length_nil] at hpl
      obtain rfl : p = l.length := by omega
      rw [List.getElem?_append_right (Nat.le_refl _), Nat.sub_self] at hp
      obtain rfl : i = j := Option.some.inj hp
      rw [List.take_append_of_le_length (Nat.le_refl _), List.take_length]
      exact h2 k hk he
theorem sub_len : ∀ {s l : List Nat}, s.Nodup → (∀ i ∈ s, i ∈ l) → s.length ≤ l.length
  | [], _, _, _ => Nat.zero_le _
  | x :: s, l, hd, hs => by
    rw [List.nodup_cons] at hd
    have hx := hs x (by simp)
    have := sub_len (s := s) (l := l.erase x) hd.2 (fun i hi => by
      have hne : i ≠ x := fun e => hd.1 (by rw [← e]; exact hi)
      exact (List.mem_erase_of_ne hne).2 (hs i (by simp [hi])))
    rw [List.length_erase_of_mem hx] at this
    have hp := List.length_pos_of_mem hx
    simp
    omega
theorem nodup_len {n : Nat} {l : List Nat} (hd : l.Nodup) (hl : ∀ i ∈ l, i < n) : l.length ≤ n := by
  have := sub_len hd (l := List.range n) (fun i hi => List.mem_range.2 (hl i hi))
  simpa using this
theorem miss {n : Nat} {l : List Nat} (h : l.length < n) : ∃ i, i < n ∧ i ∉ l := by
  by_cases hh : ∃ i, i < n ∧ i ∉ l
  · exact hh
  · have hs : ∀ i ∈ List.range n, i ∈ l := fun i hi => by
      by_cases q : i ∈ l
      · exact q
      · exact absurd ⟨i, List.mem_range.1 hi, q⟩ hh
    have := sub_len (List.nodup_range (n := n)) hs
    rw [List.length_range] at this
    omega
theorem findT_good {e : Nat → Nat → Bool} {n : Nat} (ha : Acy e n) : ∀ (f : Nat) (l : List Nat), Good e n l → l.length + f = n → Good e n (findT e n f l) ∧ (findT e n f l).length = n
  | 0, l, h, hf => ⟨h, hf⟩
  | f + 1, l, h, hf => by
    obtain ⟨i, hi⟩ := next_ex ha (miss (l := l) (by omega))
    unfold findT
    rw [hi]
    exact findT_good ha f (l ++ [i]) (h.snoc hi) (by rw [List.length_append]; simp; omega)
theorem find_good {e : Nat → Nat → Bool} {n : Nat} (ha : Acy e n) : Good e n (findO e n) ∧ (findO e n).length = n := findT_good ha n [] (good_nil e n) (by simp)
/-- all are there. -/
theorem Good.all {e : Nat → Nat → Bool} {n : Nat} {l : List Nat} (h : Good e n l) (hl : l.length = n) (i : Nat) (hi : i < n) : i ∈ l := by
  by_cases q : i ∈ l
  · exact q
  · have : (i :: l).Nodup := List.nodup_cons.2 ⟨q, h.nd⟩
    have := nodup_len this (fun j hj => by
      rcases List.mem_cons.1 hj with rfl | hj
      · exact hi
      · exact h.lt j hj)
    simp at this
    omega
end Go.Proofs.Ytaonepbongbhoaa.Jd
namespace Go.Proofs.Ytaonepbongbhoaa.Jd
open Hi (Ev Cr crs crL run entC entF Rw)
open Rp (Ent Vp allS allI)
def S0 : List Vp := List.replicate 64 (1, 0)
def rowO (L : List Ev) (o : List Int) : List Ent := o.map fun x => entF L (crL L) (x - 1).toNat
structure Fit (L : List Ev) (o : List Int) : Prop where
  is : (crs L).isSome = true
  len : o.length = (crL L).length
  inn : ∀ x ∈ o, 1 ≤ x ∧ x ≤ ((crL L).length : Int)
  ne : ∀ (i k : Nat) (x y : Int), k < i → o[i]? = some x → o[k]? = some y → y ≠ x
  ord : ∀ (i k : Nat) (x y : Int) (c d : Cr), k < i → o[i]? = some x → o[k]? = some y → (crL L)[(x - 1).toNat]? = some c → (crL L)[(y - 1).toNat]? = some d → ¬ c.e < d.b
  all : allI S0 (rowO L o) = none
theorem Fit.rw {L : List Ev} {o : List Int} (h : Fit L o) (hl : L.length ≤ 2000) : Rw L (crL L) := by
  have := h.is
  cases hc : crs L with
  | none => rw [hc] at this; cases this
  | some l => exact ⟨by unfold crL; rw [hc]; exact (Hi.crs_some hc).2, hl⟩
theorem Fit.nodup {L : List Ev} {o : List Int} (h : Fit L o) : o.Nodup := by
  rw [List.nodup_iff_pairwise_ne, List.pairwise_iff_getElem]
  intro i j hi hj hij
  exact h.ne j i _ _ hij (List.getElem?_eq_getElem hj) (List.getElem?_eq_getElem hi)
/-- each one stands in it. -/
theorem Fit.has {L : List Ev} {o : List Int} (h : Fit L o) {j : Nat} (hj : j < (crL L).length) : (j : Int) + 1 ∈ o := by
  by_cases q : (j : Int) + 1 ∈ o
  · exact q
  · have hd : (o.map fun x => (x - 1).toNat).Nodup := by
      rw [List.nodup_iff_pairwise_ne, List.pairwise_map, List.pairwise_iff_getElem]
      intro a b ha hb hab
      have h1 := h.inn _ (List.getElem_mem ha)
      have h2 := h.inn _ (List.getElem_mem hb)
      have := h.ne b a _ _ hab (List.getElem?_eq_getElem hb) (List.getElem?_eq_getElem ha)
      omega
    have hc : (j :: o.map fun x => (x - 1).toNat).Nodup := by
      refine List.nodup_cons.2 ⟨fun hm => ?_, hd⟩
      obtain ⟨x, hx, e⟩ := List.mem_map.1 hm
      have := h.inn x hx
      obtain rfl : x = (j : Int) + 1 := by omega
      exact q hx
    have := nodup_len hc (fun i hi => by
      rcases List.mem_cons.1 hi with rfl | hi
      · exact hj
      · obtain ⟨x, hx, rfl⟩ := List.mem_map.1 hi
        have := h.inn x hx
        omega)
    have hlen := h.len
    simp at this
    omega
theorem not_short {L : List Ev} {o p : List Int} (h : Fit L o) (hp : p.length ≠ o.length) : ¬ Fit L p := fun hq => hp (hq.len.trans h.len.symm)
theorem not_far {L : List Ev} {p : List Int} {x : Int} (hx : x ∈ p) (hf : ((crL L).length : Int) < x) : ¬ Fit L p := fun hq => by have := hq.inn x hx; omega
/-- a read's event is of the transaction. -/
theorem rdS_id (L : List Ev) (id x : Int) : Hi.rdS L id x < 0 ∨ ∃ (k : Nat) (e : Ev), Hi.rdS L id x = (k : Int) ∧ L[k]? = some e ∧ e.id = id := by
  refine Hi.rev_ind (P := fun L => Hi.rdS L id x < 0 ∨ ∃ (k : Nat) (e : Ev), Hi.rdS L id x = (k : Int) ∧ L[k]? = some e ∧ e.id = id) (.inl (by show (-1 : Int) < 0; decide)) ?_ L
  intro a e ih
  have hs : Hi.rdS (a ++ [e]) id x = Hi.rdF id x a.length e (Hi.rdS a id x) := Hi.scan_snoc _ _ _ _
  rw [hs]
  rcases ih with h | ⟨k, e', h, hk, h1⟩
  · unfold Hi.rdF
    by_cases q : Hi.rdS a id x = -1
    · rw [if_pos q]
      by_cases q2 : e.id = id ∧ e.x = x ∧ e.kd = 2
      · rw [if_pos q2]; exact .inl (by decide)
      · rw [if_neg q2]
        by_cases q3 : e.id = id ∧ e.x = x ∧ e.kd = 1
        · rw [if_pos q3]
          exact .inr ⟨a.length, e, rfl, by simp, q3.1⟩
        · rw [if_neg q3]; exact .inl (by decide)
    · rw [if_neg q]; exact .inl h
  · rw [h]
    unfold Hi.rdF
    rw [if_neg (by omega)]
    exact .inr ⟨k, e', rfl, by rw [List.getElem?_append_left (List.getElem?_eq_some_iff.1 hk).1]; exact hk, h1⟩
theorem rd_id {L : List Ev} {l : List Cr} (h : Rw L l) {j : Nat} {c : Cr} (hc : l[j]? = some c) {x : Int} {n : Nat} (hr : c.rd x = some n) : ∃ e, L[n]? = some e ∧ e.id = (j : Int) + 1 := by
  have h3 := h.tie.r j x
  rw [hc] at h3
  have h3 : Hi.rdS L ((j : Int) + 1) x = (n : Int) := by rw [h3]; unfold Hi.oR Hi.nI; simp [hr]
  rcases rdS_id L ((j : Int) + 1) x with q | ⟨k, e, q, hk, h1⟩
  · omega
  · obtain rfl : k = n := by omega
    exact ⟨e, hk, h1⟩
/-- the read that has another value: the order fits no more. -/
theorem fit_read {L : List Ev} {o : List Int} {k j : Nat} {e f : Ev} {c : Cr} (h : Fit L o) (hl : L.length ≤ 2000) (he : L[k]? = some e) (hj : (crL L)[j]? = some c) (hr : c.rd e.x = some k) (hf : face f = face e) (hv : (f.k, f.n) ≠ (e.k, e.n)) : ¬ Fit (L.set k f) o := by
  intro hq
  have hrw := h.rw hl
  have hcr : crs (L.set k f) = crs L := face_crs (face_set he hf)
  have hcL : crL (L.set k f) = crL L := by unfold crL; rw [hcr]
  have hx := (hrw.okc hj).rd _ _ hr
  obtain ⟨e1, h1, h1k, _⟩ := hrw.rdE hj hr
  rw [he] at h1
  obtain rfl := Option.some.inj h1
  obtain ⟨e2, h2, hid⟩ := rd_id hrw hj hr
  rw [he] at h2
  obtain rfl := Option.some.inj h2
  have hother : ∀ i, i ≠ j → entF (L.set k f) (crL (L.set k f)) i = entF L (crL L) i := fun i hi => by
    rw [hcL]
    unfold entF
    cases hd : (crL L)[i]? with
    | none => rfl
    | some d =>
      refine ent_other (fun x hx => ?_) (fun x hx => ?_)
      · obtain ⟨e3, h3, hid3⟩ := rd_id hrw hd hx
        rw [he] at h3
        obtain rfl := Option.some.inj h3
        omega
      · obtain ⟨e3, h3, hk3, _⟩ := hrw.wrE hd hx
        rw [he] at h3
        obtain rfl := Option.some.inj h3
        omega
  have hin := h.has (List.getElem?_eq_some_iff.1 hj).1
  obtain ⟨p, s, rfl⟩ := List.append_of_mem hin
  have hnd := h.nodup
  rw [List.nodup_append] at hnd
  have hp : ∀ x ∈ p, x ≠ (j : Int) + 1 := fun x hx e => hnd.2.2 x hx _ (by simp) e
  have hpin : ∀ x ∈ p, 1 ≤ x := fun x hx => (h.inn x (by simp [hx])).1
  have e0 : rowO (L.set k f) (p ++ ((j : Int) + 1) :: s) = rowO L p ++ entC (L.set k f) j c :: rowO (L.set k f) s := by
    unfold rowO
    rw [List.map_append, List.map_cons]
    congr 1
    · refine List.map_congr_left fun x hx => hother _ ?_
      have := hp x hx
      have := hpin x hx
      omega
    · congr 1
      rw [hcL, show ((j : Int) + 1 - 1).toNat = j by omega]
      unfold entF
      rw [hj]
  have e1' : rowO L (p ++ ((j : Int) + 1) :: s) = rowO L p ++ entC L j c :: rowO L s := by
    unfold rowO
    rw [List.map_append, List.map_cons]
    congr 2
    rw [show ((j : Int) + 1 - 1).toNat = j by omega]
    unfold entF
    rw [hj]
  have ha := h.all
  rw [e1'] at ha
  obtain ⟨a1, a2⟩ := all_front ha
  have hb := hq.all
  rw [e0] at hb
  exact all_stops a1 (read_denied he hr ⟨hx.1, hx.2.1⟩ hv a2) hb
end Go.Proofs.Ytaonepbongbhoaa.Jd
namespace Go.Proofs.Ytaonepbongbhoaa.Jd
open Hi (Ev Cr crs crL run entC entF Rw Ge)
open Rp (Ent Vp allS allI)
/-- y may stand ahead of x. -/
def Ah (l : List Cr) (y x : Int) : Prop := y ≠ x ∧ ∀ (c d : Cr), l[(x - 1).toNat]? = some c → l[(y - 1).toNat]? = some d → ¬ c.e < d.b
theorem fit_iff {L : List Ev} {o : List Int} : Fit L o ↔ (crs L).isSome = true ∧ o.length = (crL L).length ∧ (∀ x ∈ o, 1 ≤ x ∧ x ≤ ((crL L).length : Int)) ∧ o.Pairwise (Ah (crL L)) ∧ allI S0 (rowO L o) = none := by
  constructor
  · intro h
    refine ⟨h.is, h.len, h.inn, ?_, h.all⟩
    rw [List.pairwise_iff_getElem]
    intro k i hk hi hki
    exact ⟨h.ne i k _ _ hki (List.getElem?_eq_getElem hi) (List.getElem?_eq_getElem hk), fun c d hc hd => h.ord i k _ _ c d hki (List.getElem?_eq_getElem hi) (List.getElem?_eq_getElem hk) hc hd⟩
  · rintro ⟨h1, h2, h3, h4, h5⟩
    rw [List.pairwise_iff_getElem] at h4
    have key : ∀ (i k : Nat) (x y : Int), k < i → o[i]? = some x → o[k]? = some y → Ah (crL L) y x := fun i k x y hki hx hy => by
      obtain ⟨hi, rfl⟩ := List.getElem?_eq_some_iff.1 hx
      obtain ⟨hk, rfl⟩ := List.getElem?_eq_some_iff.1 hy
      exact h4 k i hk hi hki
    exact ⟨h1, h2, h3, fun i k x y a b c => (key i k x y a b c).1, fun i k x y c d a b e => (key i k x y a b e).2 c d, h5⟩
theorem fit_turn {L : List Ev} {p s : List Int} {a b : Int} (h : Fit L (p ++ a :: b :: s)) (hg : ¬ Ge (crL L) (a - 1).toNat (b - 1).toNat) (hap : Apart (entF L (crL L) (a - 1).toNat) (entF L (crL L) (b - 1).toNat)) : Fit L (p ++ b :: a :: s) := by
  rw [fit_iff] at h ⊢
  obtain ⟨h1, h2, h3, h4, h5⟩ := h
  refine ⟨h1, by simpa using h2, fun x hx => h3 x (by simp at hx ⊢; rcases hx with hx | hx | hx | hx <;> simp [hx]), ?_, ?_⟩
  · rw [List.pairwise_append, List.pairwise_cons, List.pairwise_cons] at h4 ⊢
    obtain ⟨p1, ⟨p2, p3, p4⟩, p5⟩ := h4
    have hab := p2 b (by simp)
    have ha1 := h3 a (by simp)
    have hb1 := h3 b (by simp)
    refine ⟨p1, ⟨fun x hx => ?_, fun x hx => p2 x (by simp [hx]), p4⟩, fun x hx y hy => p5 x hx y (by simp at hy ⊢; rcases hy with hy | hy | hy <;> simp [hy])⟩
    rcases List.mem_cons.1 hx with rfl | hx
    · refine ⟨fun e => hab.1 e.symm, fun c d hc hd hlt => hg ⟨_, d, hd, .inl ⟨rfl, ?_, c, hc, .inl hlt⟩⟩⟩
      intro e
      have := hab.1
      omega
    · exact p3 x hx
  · have e1 : rowO L (p ++ a :: b :: s) = rowO L p ++ entF L (crL L) (a - 1).toNat :: entF L (crL L) (b - 1).toNat :: rowO L s := by unfold rowO; simp
    have e2 : rowO L (p ++ b :: a :: s) = rowO L p ++ entF L (crL L) (b - 1).toNat :: entF L (crL L) (a - 1).toNat :: rowO L s := by unfold rowO; simp
    rw [e1] at h5
    rw [e2]
    exact all_turn hap h5
/-- a read behind which, and ahead of which, nothing of the same transaction touched the variable counts. -/
theorem read_counts {a : List Ev} {l : List Cr} (h : run 0 [] a = some l) (hn : a.length ≤ 2000) : ∀ (k : Nat) (e : Ev), a[k]? = some e → e.kd = 1 → (∀ (i : Nat) (e' : Ev), i < k → a[i]? = some e' → ¬ ((e'.kd = 1 ∨ e'.kd = 2) ∧ e'.id = e.id ∧ e'.x = e.x)) → ∃ (j : Nat) (c : Cr), e.id = (j : Int) + 1 ∧ l[j]? = some c ∧ c.rd e.x = some k := by
  intro k e hk h1 hf
  obtain ⟨l', hl'⟩ : ∃ l', run 0 [] (a.take k) = some l' := by
    have e : a.take k ++ a.drop k = a := List.take_append_drop _ _
    rw [← e, Hi.run_append] at h
    cases q : run 0 [] (a.take k) with
    | some l' => exact ⟨l', rfl⟩
    | none => rw [q] at h; cases h
  have hlt := (List.getElem?_eq_some_iff.1 hk).1
  have htie := Hi.tie_run h hn
  -- by the scan: nothing ahead of it, then the read itself
  have hs0 : Hi.rdS (a.take k) e.id e.x = -1 := by
    have : ∀ m, m ≤ k → Hi.rdS (a.take m) e.id e.x = -1 := by
      intro m
      induction m with
      | zero => intro _; rfl
      | succ m ih =>
        intro hm
        have hm' : a[m]? = some a[m] := List.getElem?_eq_getElem (by omega)
        exact Hi.rd_miss hm' (ih (by omega)) (fun q => hf m _ (by omega) hm' ⟨.inr q.2.2, q.1, q.2.1⟩) (fun q => hf m _ (by omega) hm' ⟨.inl q.2.2, q.1, q.2.1⟩)
    exact this k (Nat.le_refl _)
  have hs : Hi.rdS a e.id e.x = (k : Int) := Hi.rd_hit hk hs0 (by unfold Hi.rdF; rw [if_pos rfl, if_neg (by omega), if_pos ⟨rfl, rfl, h1⟩]) (by omega)
  -- the transaction is one of those that began
  obtain ⟨j, hj⟩ : ∃ j : Nat, e.id = (j : Int) + 1 := by
    have h2 : run 0 [] (a.take (k + 1)) ≠ none := by
      intro q
      have e : a.take (k + 1) ++ a.drop (k + 1) = a := List.take_append_drop _ _
      rw [← e, Hi.run_append, q] at h
      cases h
    rw [List.take_add_one, hk, Option.toList, Hi.run_snoc hl'] at h2
    by_cases hft : Hi.fits l' e = true
    · obtain ⟨j, c, hid, _⟩ := Hi.fits_at (by omega) hft
      exact ⟨j, hid⟩
    · rw [if_neg hft] at h2; exact absurd rfl h2
  have h3 := htie.r j e.x
  rw [← hj, hs] at h3
  cases hc : l[j]? with
  | none =>
    rw [hc] at h3
    change (k : Int) = -1 at h3
    omega
  | some c =>
    rw [hc] at h3
    refine ⟨j, c, hj, hc, ?_⟩
    change (k : Int) = (if (c.rd e.x).isSome = true then Hi.nI (c.rd e.x) else if (c.wr e.x).isSome = true then -2 else -1) at h3
    cases q : c.rd e.x with
    | none =>
      rw [q, if_neg (by simp)] at h3
      split at h3 <;> omega
    | some m =>
      rw [q, if_pos (by simp)] at h3
      change (k : Int) = (m : Int) at h3
      rw [show m = k by omega]
end Go.Proofs.Ytaonepbongbhoaa.Jd
namespace Go.Proofs.Ytaonepbongbhoaa.Hi
/-- how a course goes on behind n events. -/
structure Mo (n : Nat) (c' c : Cr) : Prop where
  b : c.b = c'.b
  e : c'.e ≠ never → c.e = c'.e
  live : c'.e = never → n ≤ c.e
  left : ∀ x, left c' x = true → left c x = true
  rd : ∀ x k, c'.rd x = some k → c.rd x = some k
  back : ∀ x, Hi.left c x = true → c.e < n → Hi.left c' x = true ∧ c'.e = c.e
theorem Mo.refl {n : Nat} (hn : n ≤ 2000) (c : Cr) : Mo n c c := ⟨rfl, fun _ => rfl, fun h => by rw [h]; unfold never; omega, fun _ h => h, fun _ _ h => h, fun _ h _ => ⟨h, rfl⟩⟩
theorem not_left {c : Cr} (h : c.com = false) (x : Int) : left c x = false := by unfold left; rw [h]; rfl
theorem Mo.note {n N : Nat} {c' c : Cr} {e : Ev} (h : Mo n c' c) (hn : n ≤ N) (_ : N ≤ 2000) (ho : over c = false) (hc : c.com = true → c.e ≠ never) (hk : e.kd = 1 ∨ e.kd = 2 ∨ e.kd = 3 ∨ e.kd = 4) : Mo n c' (note c N e) := by
  have he : c.e = never := by simpa [over] using ho
  have hcom : c.com = false := by
    cases hh : c.com with
    | false => rfl
    | true => exact absurd he (hc hh)
  have hl : ∀ x, Hi.left c x = false := not_left hcom
  have hl' : ∀ x, Hi.left c' x = false := fun x => by
    cases hh : Hi.left c' x with
    | false => rfl
    | true => have := h.left x hh; rw [hl] at this; cases this
  have he' : c'.e = never := Classical.byContradiction fun hh => by have := h.e hh; rw [he] at this; exact hh this.symm
  unfold Hi.note
  rcases hk with hk | hk | hk | hk
  · rw [if_pos hk]
    split
    · rename_i hx
      refine ⟨h.b, h.e, h.live, (fun x hh => by rw [hl'] at hh; cases hh), fun x k hh => ?_, fun x hh => ?_⟩
      · have := h.rd x k hh
        show upd c.rd e.x N x = some k
        unfold upd
        rw [if_neg (fun e => by subst e; rw [this] at hx; cases hx.1)]
        exact this
      · have : Hi.left c x = true := hh
        rw [hl] at this; cases this
    · exact h
  · rw [if_neg (by omega), if_pos hk]
    refine ⟨h.b, h.e, h.live, (fun x hh => by rw [hl'] at hh; cases hh), h.rd, fun x hh => ?_⟩
    rw [not_left (c := ⟨c.b, c.e, c.com, c.rd, upd c.wr e.x N⟩) hcom] at hh; cases hh
  · rw [if_neg (by omega), if_neg (by omega)]
    exact ⟨h.b, fun hh => absurd he' hh, fun _ => hn, (fun x hh => by rw [hl'] at hh; cases hh), h.rd, fun x _ hh => by have : N < n := hh; omega⟩
  · rw [if_neg (by omega), if_neg (by omega)]
    exact ⟨h.b, fun hh => absurd he' hh, fun _ => hn, (fun x hh => by rw [hl'] at hh; cases hh), h.rd, fun x _ hh => by have : N < n := hh; omega⟩
/-- behind more events. -/
structure Mr (n : Nat) (l' l : List Cr) : Prop where
  old : ∀ (i : Nat) (c' : Cr), l'[i]? = some c' → ∃ c, l[i]? = some c ∧ Mo n c' c
  new : ∀ (i : Nat) (c : Cr), l'.length ≤ i → l[i]? = some c → n ≤ c.b
theorem Mr.len {n : Nat} {l' l : List Cr} (h : Mr n l' l) : l'.length ≤ l.length := by
  rcases Nat.eq_zero_or_pos l'.length with h0 | h0
  · omega
  · obtain ⟨c, hc, _⟩ := h.old (l'.length - 1) _ (List.getElem?_eq_getElem (by omega))
    have := (List.getElem?_eq_some_iff.1 hc).1
    omega
theorem run_pre {a b : List Ev} {l : List Cr} (h : run 0 [] (a ++ b) = some l) : ∃ l', run 0 [] a = some l' := by
  rw [run_append] at h
  cases ha : run 0 [] a with
  | none => rw [ha] at h; cases h
  | some l' => exact ⟨l', rfl⟩
theorem run_last {a : List Ev} {e : Ev} {l : List Cr} (h : run 0 [] (a ++ [e]) = some l) : ∃ l', run 0 [] a = some l' ∧ fits l' e = true ∧ l = step l' a.length e := by
  obtain ⟨l', ha⟩ := run_pre h
  rw [run_snoc ha] at h
  by_cases hf : fits l' e = true
  · rw [if_pos hf, Nat.zero_add] at h
    exact ⟨l', ha, hf, (Option.some.inj h).symm⟩
  · rw [if_neg hf] at h; cases h
theorem run_mono {a : List Ev} {l' : List Cr} (ha : run 0 [] a = some l') (b : List Ev) : ∀ l, run 0 [] (a ++ b) = some l → (a ++ b).length ≤ 2000 → Mr a.length l' l := by
  refine rev_ind (P := fun b => ∀ l, run 0 [] (a ++ b) = some l → (a ++ b).length ≤ 2000 → Mr a.length l' l) ?_ ?_ b
  · intro l h hl
    rw [List.append_nil] at h hl
    rw [ha] at h
    obtain rfl := Option.some.inj h
    exact ⟨fun i c hc => ⟨c, hc, Mo.refl hl c⟩, fun i c hi hc => by have := (List.getElem?_eq_some_iff.1 hc).1; omega⟩
  · intro b e ih l h hl
    rw [← List.append_assoc] at h hl
    obtain ⟨l1, h1, hf, rfl⟩ := run_last h
    have hl1 : (a ++ b).length ≤ 2000 := by rw [List.length_append] at hl; omega
    have hm := ih l1 h1 hl1
    have hok := run_ok h1 hl1
    have hab : a.length ≤ (a ++ b).length := by rw [List.length_append]; omega
    by_cases h0 : e.kd = 0
    · rw [step_begin _ h0]
      refine ⟨fun i c' hc' => ?_, fun i c hi hc => ?_⟩
      · obtain ⟨c, hc, hmo⟩ := hm.old i c' hc'
        exact ⟨c, by rw [List.getElem?_append_left (List.getElem?_eq_some_iff.1 hc).1]; exact hc, hmo⟩
      · by_cases hil : i < l1.length
        · rw [List.getElem?_append_left hil] at hc; exact hm.new i c hi hc
        · rw [List.getElem?_append_right (by omega)] at hc
          have hi' := (List.getElem?_eq_some_iff.1 hc).1
          simp at hi'
          have e0 : i - l1.length = 0 := by omega
          rw [e0] at hc
          obtain rfl := Option.some.inj hc
          exact hab
    · obtain ⟨j, d, hj, hd, ho⟩ := fits_at h0 hf
      rw [step_note _ h0 hj hd]
      have hkd : e.kd = 1 ∨ e.kd = 2 ∨ e.kd = 3 ∨ e.kd = 4 := by rcases fits_kd hf with h | h | h | h | h <;> omega
      have hbn : (note d (a ++ b).length e).b = d.b := by
        unfold note
        split
        · split <;> rfl
        · split <;> rfl
      have hset : ∀ (i : Nat) (c : Cr), l1[i]? = some c → ∃ c2, (l1.set j (note d (a ++ b).length e))[i]? = some c2 ∧ ((i ≠ j ∧ c2 = c) ∨ (i = j ∧ c = d ∧ c2 = note d (a ++ b).length e)) := fun i c hc => by
        have hil := (List.getElem?_eq_some_iff.1 hc).1
        by_cases e1 : i = j
        · subst e1
          rw [hd] at hc
          exact ⟨_, List.getElem?_set_self hil, .inr ⟨rfl, (Option.some.inj hc).symm, rfl⟩⟩
        · exact ⟨c, by rw [List.getElem?_set_ne (Ne.symm e1)]; exact hc, .inl ⟨e1, rfl⟩⟩
      refine ⟨fun i c' hc' => ?_, fun i c hi hc => ?_⟩
      · obtain ⟨c, hc, hmo⟩ := hm.old i c' hc'
        obtain ⟨c2, h2, h3⟩ := hset i c hc
        rcases h3 with ⟨_, rfl⟩ | ⟨rfl, rfl, rfl⟩
        · exact ⟨_, h2, hmo⟩
        · exact ⟨_, h2, hmo.note hab hl1 ho (hok.1 c (List.mem_of_getElem? hc)).com hkd⟩
      · have hil : i < l1.length := by have := (List.getElem?_eq_some_iff.1 hc).1; rwa [List.length_set] at this
        obtain ⟨c2, h2, h3⟩ := hset i _ (List.getElem?_eq_getElem hil)
        rw [hc] at h2
        obtain rfl := Option.some.inj h2
        have := hm.new i _ hi (List.getElem?_eq_getElem hil)
        rcases h3 with ⟨_, h3⟩ | ⟨_, h3, h4⟩
        · rw [h3]; exact this
        · rw [h4, hbn, ← h3]; exact this
/-- no two end by one event. -/
def Inj (l : List Cr) : Prop := ∀ (i j : Nat) (c d : Cr), l[i]? = some c → l[j]? = some d → c.e = d.e → c.e ≠ never → i = j
theorem run_inj {a : List Ev} {l : List Cr} (h : run 0 [] a = some l) (hn : a.length ≤ 2000) : Inj l := by
  refine run_ind (P := fun n a l => a.length ≤ 2000 → Inj l) (fun _ i j c d h => by simp at h) ?_ a l h hn
  intro a l e ha ih hf hlen
  rw [List.length_append] at hlen
  simp only [List.length_cons, List.length_nil] at hlen
  have hok := run_ok ha (by omega)
  have ih := ih (by omega)
  by_cases h0 : e.kd = 0
  · rw [step_begin _ h0]
    have hc : ∀ (i : Nat) (c : Cr), (l ++ [begun a.length])[i]? = some c → c.e ≠ never → l[i]? = some c := fun i c hi hc => by
      by_cases hil : i < l.length
      · rwa [List.getElem?_append_left hil] at hi
      · rw [List.getElem?_append_right (by omega)] at hi
        have hi' := (List.getElem?_eq_some_iff.1 hi).1
        simp at hi'
        have e0 : i - l.length = 0 := by omega
        rw [e0] at hi
        rw [← Option.some.inj hi] at hc
        exact absurd rfl hc
    intro i j c d hi hj he hne
    exact ih i j c d (hc i c hi hne) (hc j d hj (he ▸ hne)) he hne
  · obtain ⟨j0, d0, hj0, hd0, ho⟩ := fits_at h0 hf
    rw [step_note _ h0 hj0 hd0]
    have he0 : d0.e = never := by simpa [over] using ho
    have hne : (note d0 a.length e).e = never ∨ (note d0 a.length e).e = a.length := by
      unfold note
      split
      · split
        · exact .inl he0
        · exact .inl he0
      · split
        · exact .inl he0
        · exact .inr rfl
    have hlt : ∀ (i : Nat) (c : Cr), l[i]? = some c → c.e ≠ never → c.e < a.length := fun i c hi hc => by
      rcases (hok.1 c (List.mem_of_getElem? hi)).e with h | h
      · exact absurd h hc
      · exact h.2
    have hc : ∀ (i : Nat) (c : Cr), (l.set j0 (note d0 a.length e))[i]? = some c → (i = j0 ∧ c = note d0 a.length e) ∨ (i ≠ j0 ∧ l[i]? = some c) := fun i c hi => by
      by_cases e1 : i = j0
      · subst e1
        have hl := (List.getElem?_eq_some_iff.1 hi).1
        rw [List.length_set] at hl
        rw [List.getElem?_set_self hl] at hi
        exact .inl ⟨rfl, (Option.some.inj hi).symm⟩
      · rw [List.getElem?_set_ne (Ne.symm e1)] at hi
        exact .inr ⟨e1, hi⟩
    intro i j c d hi hj he hcn
    rcases hc i c hi with ⟨e1, rfl⟩ | ⟨e1, h1⟩
    · rcases hc j d hj with ⟨e2, rfl⟩ | ⟨e2, h2⟩
      · rw [e1, e2]
      · rcases hne with h | h
        · exact absurd h hcn
        · have := hlt j d h2 (he ▸ hcn); omega
    · rcases hc j d hj with ⟨e2, rfl⟩ | ⟨e2, h2⟩
      · rcases hne with h | h
        · rw [h] at he; exact absurd he hcn
        · have := hlt i c h1 hcn; omega
      · exact ih i j c d h1 h2 he hcn
/-- who is found is the last one. -/
theorem src_is {l : List Cr} (hj : Inj l) (hc : ∀ c ∈ l, c.com = true → c.e ≠ never) {x : Int} {n a : Nat} {c : Cr} (ha : l[a]? = some c) (hl : left c x = true) (he : c.e ≤ n) (ht : ∀ (i : Nat) (d : Cr), l[i]? = some d → left d x = true → d.e ≤ n → d.e ≤ c.e) : src l x n = (a : Int) := by
  have hal := (List.getElem?_eq_some_iff.1 ha).1
  rcases srcTo_spec l x n l.length (Nat.le_refl _) with ⟨_, h⟩ | ⟨b, d, h, hh⟩
  · exact absurd ⟨hl, he⟩ (h a c hal ha)
  · have h1 := hh.top a c hal ha hl he
    have h2 := ht b d hh.at_ hh.left hh.le
    have hcn : c.e ≠ never := hc c (List.mem_of_getElem? ha) (by unfold left at hl; simp at hl; exact hl.1)
    have : a = b := hj a b c d ha hh.at_ (by omega) hcn
    unfold src; rw [h, this]
theorem src_none {l : List Cr} {x : Int} {n : Nat} (h : ∀ (i : Nat) (d : Cr), l[i]? = some d → ¬ (left d x = true ∧ d.e ≤ n)) : src l x n = -1 := by
  rcases srcTo_spec l x n l.length (Nat.le_refl _) with ⟨h1, _⟩ | ⟨b, d, h1, hh⟩
  · exact h1
  · exact absurd ⟨hh.left, hh.le⟩ (h b d hh.at_)
theorem src_mono {n : Nat} {l' l : List Cr} (h : Mr n l' l) (hj : Inj l) (hc : ∀ c ∈ l, c.com = true → c.e ≠ never) (hb : ∀ c ∈ l, c.b ≤ c.e) {x : Int} {k : Nat} (hn : n ≤ 2000) (hk : k < n) : src l x k = src l' x k := by
  have hback : ∀ (i : Nat) (d : Cr), l[i]? = some d → left d x = true → d.e ≤ k → ∃ d', l'[i]? = some d' ∧ left d' x = true ∧ d'.e = d.e := fun i d hd hl he => by
    by_cases hi : i < l'.length
    · obtain ⟨c, h1, h2⟩ := h.old i _ (List.getElem?_eq_getElem hi)
      rw [hd] at h1
      obtain rfl := Option.some.inj h1
      have := h2.back x hl (by omega)
      exact ⟨_, List.getElem?_eq_getElem hi, this.1, this.2⟩
    · have h1 := h.new i d (by omega) hd
      have h2 := hb d (List.mem_of_getElem? hd)
      omega
  rcases srcTo_spec l' x k l'.length (Nat.le_refl _) with ⟨h1, h2⟩ | ⟨a, c', h1, hh⟩
  · have : src l' x k = -1 := h1
    rw [this]
    refine src_none fun i d hd hl => ?_
    obtain ⟨d', h3, h4, h5⟩ := hback i d hd hl.1 hl.2
    exact h2 i d' (List.getElem?_eq_some_iff.1 h3).1 h3 ⟨h4, by omega⟩
  · have : src l' x k = (a : Int) := h1
    rw [this]
    obtain ⟨c, hca, hmo⟩ := h.old a c' hh.at_
    have hle := hh.le
    have hce : c.e = c'.e := hmo.e (fun e => by rw [e] at hle; unfold never at hle; omega)
    refine src_is hj hc hca (hmo.left x hh.left) (by omega) fun i d hd hl he => ?_
    obtain ⟨d', h3, h4, h5⟩ := hback i d hd hl he
    have := hh.top i d' (List.getElem?_eq_some_iff.1 h3).1 h3 h4 (by omega)
    omega
/-- an event more takes no edge away. -/
theorem ge_mono {n : Nat} {l' l : List Cr} (h : Mr n l' l) (hn : n ≤ 2000) (h' : ∀ c ∈ l', Okc n c) (hj : Inj l) (hc : ∀ c ∈ l, c.com = true → c.e ≠ never) (hb : ∀ c ∈ l, c.b ≤ c.e) {i j : Nat} (hg : Ge l' i j) : Ge l i j := by
  have hcom : ∀ (i : Nat) (c : Cr) (x : Int), l'[i]? = some c → left c x = true → c.e ≠ never := fun i c x hi hl => (h' c (List.mem_of_getElem? hi)).com (by unfold left at hl; simp at hl; exact hl.1)
  obtain ⟨b, c', hb', hg⟩ := hg
  obtain ⟨c, hcb, hm⟩ := h.old b c' hb'
  have hbn := (h' c' (List.mem_of_getElem? hb')).b
  refine ⟨b, c, hcb, ?_⟩
  rcases hg with ⟨rfl, hij, d', hd', hg⟩ | ⟨x, k, hr, hg⟩
  · obtain ⟨d, hdi, hmd⟩ := h.old i d' hd'
    refine .inl ⟨rfl, hij, d, hdi, ?_⟩
    rcases hg with hg | ⟨hlt, x, h1, h2⟩
    · refine .inl ?_
      rw [hmd.e (fun e => by rw [e] at hg; unfold never at hg; omega), hm.b]; exact hg
    · refine .inr ⟨?_, x, hm.left x h1, hmd.left x h2⟩
      rw [hmd.e (hcom i d' x hd' h2), hm.e (hcom _ c' x hb' h1)]; exact hlt
  · have hrk := (h' c' (List.mem_of_getElem? hb')).rd x k hr
    refine .inr ⟨x, k, hm.rd x k hr, ?_⟩
    rcases hg with ⟨rfl, h1, h2⟩ | ⟨rfl, h1, d', hd', h2, h3⟩
    · exact .inl ⟨rfl, by rw [src_mono h hj hc hb hn hrk.2.2.2.1]; exact h1, h2⟩
    · obtain ⟨d, hdj, hmd⟩ := h.old j d' hd'
      refine .inr ⟨rfl, h1, d, hdj, hmd.left x h2, ?_⟩
      rw [hmd.e (hcom j d' x hd' h2)]; exact h3
end Go.Proofs.Ytaonepbongbhoaa.Hi
namespace Go.Proofs.Ytaonepbongbhoaa.Jd
open Hi (Ev Cr crs crL run Rw Ge Is Mr Inj)
theorem row_is {L : List Ev} (hl : L.length ≤ 2000) (h : (crs L).isSome = true) : Rw L (crL L) := by
  cases hc : crs L with
  | none => rw [hc] at h; cases h
  | some l => exact ⟨by unfold crL; rw [hc]; exact (Hi.crs_some hc).2, hl⟩
theorem crs_begin {L : List Ev} {k : Nat} (hl : L.length ≤ 2000) (h : (crs L).isSome = true) : (crs (L.take k)).isSome = true := by
  have hr := (row_is hl h).run
  have e : L.take k ++ L.drop k = L := List.take_append_drop _ _
  rw [← e, Hi.run_append] at hr
  rw [Hi.crs_run (by rw [List.length_take]; omega)]
  cases q : run 0 [] (L.take k) with
  | some l' => rfl
  | none => rw [q] at hr; cases hr
theorem okc_le {n : Nat} {c : Cr} (h : Hi.Okc n c) (hn : n ≤ 2000) : c.b ≤ c.e := by
  have hb := h.b
  rcases h.e with e | e
  · rw [e]; unfold Hi.never; omega
  · omega
theorem ge_begin {L : List Ev} {k : Nat} (hl : L.length ≤ 2000) (h : (crs L).isSome = true) {i j : Nat} (hg : Ge (crL (L.take k)) i j) : Ge (crL L) i j := by
  have hlt : (L.take k).length ≤ 2000 := by rw [List.length_take]; omega
  have r1 := row_is hlt (crs_begin hl h)
  have r2 := row_is hl h
  have e : L.take k ++ L.drop k = L := List.take_append_drop _ _
  have hr : run 0 [] (L.take k ++ L.drop k) = some (crL L) := by rw [e]; exact r2.run
  exact Hi.ge_mono (Hi.run_mono r1.run _ _ hr (by rw [e]; exact hl)) hlt (Hi.run_ok r1.run hlt).1 (Hi.run_inj r2.run hl) r2.com (fun c hc => okc_le ((Hi.run_ok r2.run hl).1 c hc) hl) hg
/-- the edges of a matrix. -/
def eM (m : Mm.Gr) (i j : Nat) : Bool := (m i).testBit j
theorem free_acy {m : Mm.Gr} {L : List Ev} {l : List Cr} (hr : Rw L l) (h : Is m (Ge l)) : Mm.free m = true ↔ Acy (eM m) l.length := by
  have h32 := hr.few
  have key : ∀ a b, Mm.E m a b ↔ a < l.length ∧ b < l.length ∧ eM m a b = true := fun a b => by
    constructor
    · rintro ⟨h1, h2, h3⟩
      have hg := (Hi.ge_dc hr a b).1 ((h.is a b h1).1 h3)
      exact ⟨hg.1, hg.2.1, h3⟩
    · rintro ⟨h1, h2, h3⟩
      exact ⟨by omega, by omega, h3⟩
  rw [Mm.free_iff]
  unfold Acy
  constructor
  · intro hf i hw; exact hf i (hw.mono fun a b q => (key a b).2 q)
  · intro hf i hw; exact hf i (hw.mono fun a b q => (key a b).1 q)
/-- a beginning of a row without a way round has none. -/
theorem free_begin {m n : Mm.Gr} {L : List Ev} {k : Nat} (hl : L.length ≤ 2000) (h : (crs L).isSome = true) (hm : Is m (Ge (crL L))) (hn : Is n (Ge (crL (L.take k)))) (hf : Mm.free m = true) : Mm.free n = true := by
  rw [Mm.free_iff] at hf ⊢
  intro i hw
  exact hf i (hw.mono fun a b q => ⟨q.1, q.2.1, (hm.is a b q.1).2 (ge_begin hl h ((hn.is a b q.1).1 q.2.2))⟩)
/-- nothing that does not stand goes ahead in the order that was found. -/
theorem find_goes {e : Nat → Nat → Bool} {n : Nat} (ha : Acy e n) {p q i k : Nat} (hp : (findO e n)[p]? = some i) (hq : (findO e n)[q]? = some k) (hqp : p ≤ q) : e k i = false := by
  cases he : e k i with
  | false => rfl
  | true =>
    have g := (find_good ha).1
    have hk := g.lt k (List.mem_of_getElem? hq)
    have hm := g.fw p i k hp hk he
    obtain ⟨r, hr⟩ := List.getElem?_of_mem hm
    have hrp := (List.getElem?_eq_some_iff.1 hr).1
    rw [List.length_take] at hrp
    rw [List.getElem?_take_of_lt (by omega)] at hr
    have hrl : r < (findO e n).length := by have := Nat.min_le_right p (findO e n).length; omega
    have : r = q := (List.getElem?_inj hrl g.nd).1 (hr.trans hq.symm)
    have := Nat.min_le_left p (findO e n).length
    omega
end Go.Proofs.Ytaonepbongbhoaa.Jd
namespace Go.Proofs.Ytaonepbongbhoaa.Jd
open Hi (Ev Cr crs crL run Rw Ge Is)
/-- the edges of a row's graph. -/
noncomputable def eL (L : List Ev) (i j : Nat) : Bool := @decide (Ge (crL L) i j) (Classical.propDecidable _)
theorem eL_iff (L : List Ev) (i j : Nat) : eL L i j = true ↔ Ge (crL L) i j := by unfold eL; simp
/-- who does not stand yet. -/
def opn (n : Nat) (had : List Nat) : List Nat := (List.range n).filter fun i => !had.contains i
theorem opn_mem {n : Nat} {had : List Nat} {i : Nat} : i ∈ opn n had ↔ i < n ∧ i ∉ had := by
  unfold opn; rw [List.mem_filter, List.mem_range]; simp
theorem opn_nil (n : Nat) : opn n [] = List.range n := by
  unfold opn
  rw [List.filter_eq_self]; simp
theorem opn_lt (n : Nat) (had : List Nat) : (opn n had).Pairwise (· < ·) := List.pairwise_lt_range.filter _
theorem erase_at : ∀ {l : List Nat} {k i : Nat}, l.Pairwise (· < ·) → l[k]? = some i → l.eraseIdx k = l.filter fun x => decide (x ≠ i)
  | [], _, _, _, h => by simp at h
  | a :: l, 0, i, hp, h => by
    simp at h
    subst h
    have h2 := (List.pairwise_cons.1 hp).1
    simp only [List.eraseIdx_cons_zero, List.filter_cons, ne_eq, not_true_eq_false, decide_false]
    rw [if_neg (by decide)]
    symm
    rw [List.filter_eq_self]
    intro x hx
    have := h2 x hx
    simp; omega
  | a :: l, k + 1, i, hp, h => by
    have hk : l[k]? = some i := by simpa using h
    have h2 := (List.pairwise_cons.1 hp).1 i (List.mem_of_getElem? hk)
    simp only [List.eraseIdx_cons_succ, List.filter_cons]
    rw [if_pos (by simp; omega), erase_at (List.pairwise_cons.1 hp).2 hk]
theorem opn_erase {n : Nat} {had : List Nat} {k i : Nat} (h : (opn n had)[k]? = some i) : (opn n had).eraseIdx k = opn n (had ++ [i]) := by
  rw [erase_at (opn_lt n had) h]
  unfold opn
  rw [List.filter_filter]
  congr 1
  funext x
  by_cases e : x = i
  · subst e; simp
  · simp [e]
theorem Good.acy {e : Nat → Nat → Bool} {n : Nat} {l : List Nat} (h : Good e n l) (hl : l.length = n) : Acy e n := by
  -- whoever stands at p has only edges from ahead of p
  have key : ∀ i j, Mm.W (fun a b => a < n ∧ b < n ∧ e a b = true) i j → ∃ p q : Nat, l[p]? = some i ∧ l[q]? = some j ∧ p < q := by
    have one : ∀ a b, (a < n ∧ b < n ∧ e a b = true) → ∃ p q : Nat, l[p]? = some a ∧ l[q]? = some b ∧ p < q := by
      rintro a b ⟨ha, hb, he⟩
      obtain ⟨q, hq⟩ := List.mem_iff_getElem?.1 (h.all hl b hb)
      have hm := h.fw q b a hq ha he
      obtain ⟨p, hp⟩ := List.mem_iff_getElem?.1 hm
      have hpl := (List.getElem?_eq_some_iff.1 hp).1
      rw [List.length_take] at hpl
      rw [List.getElem?_take_of_lt (by omega)] at hp
      exact ⟨p, q, hp, hq, by omega⟩
    intro i j hw
    induction hw with
    | one h1 => exact one _ _ h1
    | more h1 h2 ih =>
      obtain ⟨p, q, hp, hq, hpq⟩ := ih
      obtain ⟨p', q', hp', hq', hpq'⟩ := one _ _ h2
      have hql : q < l.length := (List.getElem?_eq_some_iff.1 hq).1
      have : q = p' := (List.getElem?_inj hql h.nd).1 (hq.trans hp'.symm)
      exact ⟨p, q', hp, hq', by omega⟩
  intro i hw
  obtain ⟨p, q, hp, hq, hpq⟩ := key i i hw
  have hpl : p < l.length := (List.getElem?_eq_some_iff.1 hp).1
  have := (List.getElem?_inj hpl h.nd).1 (hp.trans hq.symm)
  omega
theorem next_congr {e f : Nat → Nat → Bool} {n : Nat} {had : List Nat} (h : ∀ i j, i < n → j < n → e i j = f i j) : nextO e n had = nextO f n had := by
  have hr : ∀ i, i < n → rdy e n had i = rdy f n had i := fun i hi => by
    unfold rdy
    congr 1
    rw [Bool.eq_iff_iff, List.all_eq_true, List.all_eq_true]
    constructor
    · intro q k hk; rw [← h k i (List.mem_range.1 hk) hi]; exact q k hk
    · intro q k hk; rw [h k i (List.mem_range.1 hk) hi]; exact q k hk
  cases hn : nextO e n had with
  | some i =>
    obtain ⟨a, b, c⟩ := next_iff.1 hn
    exact (next_iff.2 ⟨a, by rw [← hr i a]; exact b, fun j hj => by rw [← hr j (by omega)]; exact c j hj⟩).symm
  | none =>
    cases hm : nextO f n had with
    | none => rfl
    | some i =>
      obtain ⟨a, b, c⟩ := next_iff.1 hm
      have := next_none hn i a
      rw [hr i a, b] at this; cases this
theorem findT_congr {e f : Nat → Nat → Bool} {n : Nat} (h : ∀ i j, i < n → j < n → e i j = f i j) : ∀ (k : Nat) (had : List Nat), findT e n k had = findT f n k had
  | 0, _ => rfl
  | k + 1, had => by
    show (match nextO e n had with | some i => findT e n k (had ++ [i]) | none => had) = _
    rw [next_congr h]
    show _ = (match nextO f n had with | some i => findT f n k (had ++ [i]) | none => had)
    cases nextO f n had with
    | none => rfl
    | some i => exact findT_congr h k _
theorem acy_congr {e f : Nat → Nat → Bool} {n : Nat} (h : ∀ i j, i < n → j < n → e i j = f i j) : Acy e n ↔ Acy f n := by
  have key : ∀ {e f : Nat → Nat → Bool}, (∀ i j, i < n → j < n → e i j = f i j) → Acy e n → Acy f n := fun h ha i hw => ha i (hw.mono fun a b q => ⟨q.1, q.2.1, by rw [h a b q.1 q.2.1]; exact q.2.2⟩)
  exact ⟨key h, key fun i j hi hj => (h i j hi hj).symm⟩
/-- how the search stands: who stands does so by the order, and the rest is found behind it. -/
structure Srch (e : Nat → Nat → Bool) (n : Nat) (had : List Nat) : Prop where
  good : Good e n had
  fin : findT e n (n - had.length) had = findO e n
theorem srch_nil (e : Nat → Nat → Bool) (n : Nat) : Srch e n [] := ⟨good_nil e n, rfl⟩
theorem Srch.le {e : Nat → Nat → Bool} {n : Nat} {had : List Nat} (h : Srch e n had) : had.length ≤ n := nodup_len h.good.nd h.good.lt
theorem Srch.step {e : Nat → Nat → Bool} {n : Nat} {had : List Nat} {i : Nat} (h : Srch e n had) (hi : nextO e n had = some i) : Srch e n (had ++ [i]) := by
  have hg := h.good.snoc hi
  have hle := nodup_len hg.nd hg.lt
  rw [List.length_append, List.length_singleton] at hle
  refine ⟨hg, ?_⟩
  have := h.fin
  rw [show n - had.length = (n - (had ++ [i]).length) + 1 by rw [List.length_append, List.length_singleton]; omega] at this
  rw [← this]
  show _ = (match nextO e n had with | some i => findT e n _ (had ++ [i]) | none => had)
  rw [hi]
theorem Srch.done {e : Nat → Nat → Bool} {n : Nat} {had : List Nat} (h : Srch e n had) (ho : opn n had = []) : had.length = n ∧ had = findO e n ∧ Acy e n := by
  have hn : had.length = n := by
    rcases Nat.lt_or_ge had.length n with hl | hl
    · obtain ⟨i, h1, h2⟩ := miss hl
      have : i ∈ opn n had := opn_mem.2 ⟨h1, h2⟩
      rw [ho] at this; cases this
    · have := h.le; omega
  refine ⟨hn, ?_, h.good.acy hn⟩
  have := h.fin
  rw [hn, Nat.sub_self] at this
  exact this
theorem Srch.stuck {e : Nat → Nat → Bool} {n : Nat} {had : List Nat} (ho : opn n had ≠ []) (hn : nextO e n had = none) : ¬ Acy e n := by
  intro ha
  obtain ⟨i, hi⟩ : ∃ i, i ∈ opn n had := by
    cases h : opn n had with
    | nil => exact absurd h ho
    | cons i _ => exact ⟨i, by simp⟩
  obtain ⟨h1, h2⟩ := opn_mem.1 hi
  obtain ⟨j, hj⟩ := next_ex ha ⟨i, h1, h2⟩
  rw [hn] at hj; cases hj
/-- the graph of those that do not stand yet. -/
structure Left (L : List Ev) (had : List Nat) (m : Mm.Gr) : Prop where
  ok : Mm.Ok m
  is : ∀ i j, Mm.E m i j ↔ (i < (crL L).length ∧ j < (crL L).length ∧ eL L i j = true) ∧ i ∉ had ∧ j ∉ had
theorem left_nil {L : List Ev} {m : Mm.Gr} (hr : Rw L (crL L)) (h : Is m (Ge (crL L))) : Left L [] m := by
  refine ⟨h.ok, fun i j => ?_⟩
  have h32 := hr.few
  constructor
  · rintro ⟨h1, h2, h3⟩
    have hg := (h.is i j h1).1 h3
    have hb := (Hi.ge_dc hr i j).1 hg
    exact ⟨⟨hb.1, hb.2.1, (eL_iff L i j).2 hg⟩, by simp, by simp⟩
  · rintro ⟨⟨h1, h2, h3⟩, _, _⟩
    exact ⟨by omega, by omega, (h.is i j (by omega)).2 ((eL_iff L i j).1 h3)⟩
theorem Left.cut {L : List Ev} {had : List Nat} {m : Mm.Gr} (h : Left L had m) {i : Nat} (hi : i < 32) : Left L (had ++ [i]) (Mm.cut m i) := by
  refine ⟨Mm.cut_ok i h.ok, fun a b => ?_⟩
  rw [Mm.cut_E h.ok hi, h.is]
  simp only [List.mem_append, List.mem_singleton, not_or]
  constructor
  · rintro ⟨⟨h1, h2, h3⟩, h4, h5⟩; exact ⟨h1, ⟨h2, h4⟩, h3, h5⟩
  · rintro ⟨h1, ⟨h2, h4⟩, h3, h5⟩; exact ⟨⟨h1, h2, h3⟩, h4, h5⟩
theorem ins_none {m : Mm.Gr} {i : Nat} : Mm.ins m i = 0 ↔ ∀ k, ¬ Mm.E m k i := by
  constructor
  · intro h k hk
    have := (Mm.ins_test m i k).2 hk
    rw [h] at this; simp at this
  · intro h
    apply Nat.eq_of_testBit_eq
    intro k
    rw [Nat.zero_testBit]
    cases hb : (Mm.ins m i).testBit k with
    | false => rfl
    | true => exact absurd ((Mm.ins_test m i k).1 hb) (h k)
theorem Left.rdy {L : List Ev} {had : List Nat} {m : Mm.Gr} (h : Left L had m) {i : Nat} (hi : i < (crL L).length) (hn : i ∉ had) : rdy (eL L) (crL L).length had i = true ↔ Mm.ins m i = 0 := by
  rw [rdy_iff, ins_none]
  constructor
  · rintro ⟨_, q⟩ k hk
    have := (h.is k i).1 hk
    exact this.2.1 (q k this.1.1 this.1.2.2)
  · intro q
    refine ⟨hn, fun k hk he => ?_⟩
    by_cases hm : k ∈ had
    · exact hm
    · exact absurd ((h.is k i).2 ⟨⟨hk, hi, he⟩, hm, hn⟩) (q k)
/-- whom the library's IndexFunc finds is next. -/
theorem Left.hit {L : List Ev} {had : List Nat} {m : Mm.Gr} (h : Left L had m) {k i : Nat} (hk : (opn (crL L).length had)[k]? = some i) (h0 : Mm.ins m i = 0) (hf : ∀ (j z : Nat), j < k → (opn (crL L).length had)[j]? = some z → Mm.ins m z ≠ 0) : nextO (eL L) (crL L).length had = some i := by
  obtain ⟨hi, hn⟩ := opn_mem.1 (List.mem_of_getElem? hk)
  rw [next_iff]
  refine ⟨hi, (h.rdy hi hn).2 h0, fun j hj => ?_⟩
  cases hr : Jd.rdy (eL L) (crL L).length had j with
  | false => rfl
  | true =>
    have hjh : j ∉ had := (rdy_iff.1 hr).1
    have hz := (h.rdy (by omega) hjh).1 hr
    obtain ⟨p, hp⟩ := List.mem_iff_getElem?.1 (opn_mem.2 ⟨show j < (crL L).length by omega, hjh⟩)
    have hpk : p < k := by
      rcases Nat.lt_or_ge p k with h1 | h1
      · exact h1
      · have hpl := (List.getElem?_eq_some_iff.1 hp)
        have hkl := (List.getElem?_eq_some_iff.1 hk)
        obtain ⟨q1, e1⟩ := hpl
        obtain ⟨q2, e2⟩ := hkl
        rcases Nat.lt_or_ge k p with h2 | h2
        · have := List.pairwise_iff_getElem.1 (opn_lt (crL L).length had) k p q2 q1 h2
          omega
        · have : p = k := by omega
          subst this
          omega
    exact absurd hz (hf p j hpk hp)
theorem Left.none {L : List Ev} {had : List Nat} {m : Mm.Gr} (h : Left L had m) (hf : ∀ z ∈ opn (crL L).length had, Mm.ins m z ≠ 0) : nextO (eL L) (crL L).length had = none := by
  cases hn : nextO (eL L) (crL L).length had with
  | none => rfl
  | some i =>
    obtain ⟨h1, h2, _⟩ := next_iff.1 hn
    have hm := (rdy_iff.1 h2).1
    exact absurd ((h.rdy h1 hm).1 h2) (hf i (opn_mem.2 ⟨h1, hm⟩))
/-- what Find finds. -/
noncomputable def fndL (L : List Ev) : List Int := (Jd.findO (eL L) (crL L).length).map fun i => ((i : Nat) : Int) + 1
def Fnd (L : List Ev) : Prop := (crs L).isSome = true ∧ Acy (eL L) (crL L).length
end Go.Proofs.Ytaonepbongbhoaa.Jd
namespace Go.Proofs.Ytaonepbongbhoaa.Jd
open Hi (Ev Cr crs crL run entC entF Rw Ge)
open Rp (Ent Vp allS allI allN)
theorem sub_lenI : ∀ {s l : List Int}, s.Nodup → (∀ i ∈ s, i ∈ l) → s.length ≤ l.length
  | [], _, _, _ => Nat.zero_le _
  | a :: s, l, hn, h => by
    have hn' := List.nodup_cons.1 hn
    have ha : a ∈ l := h a (by simp)
    have : s.length ≤ (l.erase a).length := sub_lenI hn'.2 fun i hi => by
      have hne : i ≠ a := fun e => hn'.1 (e ▸ hi)
      exact (List.mem_erase_of_ne hne).2 (h i (by simp [hi]))
    rw [List.length_erase_of_mem ha] at this
    have := List.length_pos_of_mem ha
    simp only [List.length_cons]
    omega
def ids (n : Nat) : List Int := (List.range n).map fun i => ((i : Nat) : Int) + 1
theorem ids_nd (n : Nat) : (ids n).Nodup := by
  unfold ids
  exact List.Pairwise.map (S := fun a b : Int => a ≠ b) _ (fun a b (h : a ≠ b) => by omega) List.nodup_range
theorem ids_len (n : Nat) : (ids n).length = n := by simp [ids]
theorem ids_mem {n : Nat} {x : Int} : x ∈ ids n ↔ 1 ≤ x ∧ x ≤ (n : Int) := by
  unfold ids
  rw [List.mem_map]
  constructor
  · rintro ⟨i, hi, rfl⟩
    have := List.mem_range.1 hi
    omega
  · rintro ⟨h1, h2⟩
    exact ⟨(x - 1).toNat, List.mem_range.2 (by omega), by omega⟩
structure Whole (o : List Int) (n : Nat) : Prop where
  len : o.length = n
  has : ∀ j : Nat, j < n → (j : Int) + 1 ∈ o
theorem Whole.all {o : List Int} {n : Nat} (h : Whole o n) : ∀ i ∈ ids n, i ∈ o := fun i hi => by
  have := ids_mem.1 hi
  have h2 := h.has (i - 1).toNat (by omega)
  rwa [show (((i - 1).toNat : Nat) : Int) + 1 = i by omega] at h2
theorem Whole.inn {o : List Int} {n : Nat} (h : Whole o n) : ∀ x ∈ o, 1 ≤ x ∧ x ≤ (n : Int) := fun x hx => by
  by_cases hm : x ∈ ids n
  · exact ids_mem.1 hm
  · have := sub_lenI (s := x :: ids n) (l := o) (List.nodup_cons.2 ⟨hm, ids_nd n⟩) (fun i hi => by
      rcases List.mem_cons.1 hi with rfl | hi
      · exact hx
      · exact h.all i hi)
    rw [List.length_cons, ids_len, h.len] at this
    omega
theorem Whole.ne {o : List Int} {n : Nat} (h : Whole o n) : ∀ (i k : Nat) (x y : Int), k < i → o[i]? = some x → o[k]? = some y → y ≠ x := by
  intro i k x y hki hi hk e
  subst e
  have hil := (List.getElem?_eq_some_iff.1 hi).1
  have := sub_lenI (s := ids n) (l := o.eraseIdx i) (ids_nd n) (fun z hz => by
    obtain ⟨q, hq⟩ := List.mem_iff_getElem?.1 (h.all z hz)
    refine List.mem_iff_getElem?.2 ?_
    rcases Nat.lt_trichotomy q i with h1 | h1 | h1
    · exact ⟨q, by rw [List.getElem?_eraseIdx_of_lt h1]; exact hq⟩
    · subst h1
      rw [hi] at hq
      obtain rfl := Option.some.inj hq
      exact ⟨k, by rw [List.getElem?_eraseIdx_of_lt hki]; exact hk⟩
    · exact ⟨q - 1, by rw [List.getElem?_eraseIdx_of_ge (by omega), show q - 1 + 1 = q by omega]; exact hq⟩)
  rw [ids_len, List.length_eraseIdx_of_lt hil, h.len] at this
  have := h.len
  omega
def Timely (l : List Cr) (o : List Int) : Prop := ∀ (i k : Nat) (x y : Int) (c d : Cr), k < i → o[i]? = some x → o[k]? = some y → l[(x - 1).toNat]? = some c → l[(y - 1).toNat]? = some d → ¬ c.e < d.b
theorem fit_parts {L : List Ev} {o : List Int} : Fit L o ↔ (crs L).isSome = true ∧ Whole o (crL L).length ∧ Timely (crL L) o ∧ allN S0 (rowO L o) = -1 := by
  have key : allN S0 (rowO L o) = -1 ↔ allI S0 (rowO L o) = none := by
    unfold allN
    cases allI S0 (rowO L o) with
    | none => simp
    | some k => simp
  constructor
  · intro h
    exact ⟨h.is, ⟨h.len, fun j hj => h.has hj⟩, h.ord, key.2 h.all⟩
  · rintro ⟨h1, h2, h3, h4⟩
    exact ⟨h1, h2.len, h2.inn, h2.ne, h3, key.1 h4⟩
noncomputable def fitB (L : List Ev) (o : List Int) : Bool := @decide (Fit L o) (Classical.propDecidable _)
theorem fitB_iff (L : List Ev) (o : List Int) : fitB L o = true ↔ Fit L o := by unfold fitB; simp
theorem fitB_yes {L : List Ev} {o : List Int} (h : Fit L o) : fitB L o = true := (fitB_iff L o).2 h
theorem fitB_no {L : List Ev} {o : List Int} (h : ¬ Fit L o) : fitB L o = false := by
  cases hb : fitB L o with
  | false => rfl
  | true => exact absurd ((fitB_iff L o).1 hb) h
end Go.Proofs.Ytaonepbongbhoaa.Jd
