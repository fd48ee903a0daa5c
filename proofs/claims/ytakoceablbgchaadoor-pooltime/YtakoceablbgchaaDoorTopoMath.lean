/-
  Plain mathematics of orders of 32 nodes: places, the node of a place, rows, who stands where; how places are given anew; an edge more in a sorted graph. Nothing of the program.
-/
import Derived.Test.YtakoceablbgchaaDoorMatLeast
namespace Go.Proofs.YtakoceablbgchaaDoor.Od
open Go.Proofs.YtakoceablbgchaaDoor Go.Proofs.YtakoceablbgchaaDoor.Mm
abbrev O := Nat → Int
def Ok (o : O) : Prop := ∀ i, i < 32 → -9223372036854775808 ≤ o i ∧ o i ≤ 9223372036854775807
/-- each place is one node's. -/
def Right (o : O) : Prop := ∀ p : Nat, p < 32 → ∃ i, i < 32 ∧ o i = (p : Int)
def Sorted (m : Gr) (o : O) : Prop := Right o ∧ ∀ i j, E m i j → o i < o j
/-- the node of a place. -/
def at_ (o : O) (p : Nat) : Nat := ((List.range 32).find? fun i => o i == (p : Int)).getD 0
def pl (o : O) (i : Nat) : Nat := (o i).toNat
theorem at_spec {o : O} (h : Right o) {p : Nat} (hp : p < 32) : at_ o p < 32 ∧ o (at_ o p) = (p : Int) := by
  obtain ⟨i, hi, e⟩ := h p hp
  unfold at_
  cases hf : (List.range 32).find? fun i => o i == (p : Int) with
  | none =>
    rw [List.find?_eq_none] at hf
    have := hf i (by simpa using hi)
    simp [e] at this
  | some j =>
    have h1 := List.find?_some hf
    have h2 := List.mem_of_find?_eq_some hf
    simp at h1 h2
    exact ⟨h2, h1⟩
theorem len_le {l l' : List Nat} (hn : l.Nodup) (hs : ∀ x, x ∈ l → x ∈ l') : l.length ≤ l'.length := by
  induction l generalizing l' with
  | nil => simp
  | cons a l ih =>
    rw [List.nodup_cons] at hn
    have ha := hs a (by simp)
    have h1 := ih (l' := l'.erase a) hn.2 fun x hx => by
      have hne : x ≠ a := fun e => hn.1 (e ▸ hx)
      exact (List.mem_erase_of_ne hne).2 (hs x (by simp [hx]))
    have h2 := List.length_erase_of_mem ha
    have h3 : 0 < l'.length := List.length_pos_of_mem ha
    simp
    omega
theorem onto {f : Nat → Nat} {n : Nat} (hf : ∀ i, i < n → f i < n) (hi : ∀ i j, i < n → j < n → f i = f j → i = j) (k : Nat) (hk : k < n) : ∃ i, i < n ∧ f i = k := by
  apply Classical.byContradiction
  intro hc
  have hnd : ((List.range n).map f).Nodup := by
    unfold List.Nodup
    rw [List.pairwise_map]
    refine List.Pairwise.imp_of_mem ?_ (List.pairwise_lt_range (n := n))
    intro x y hx hy hlt e
    have := hi x y (by simpa using hx) (by simpa using hy) e
    omega
  have h := len_le (l := k :: (List.range n).map f) (l' := List.range n) (by
    rw [List.nodup_cons]
    refine ⟨?_, hnd⟩
    intro hm
    rw [List.mem_map] at hm
    obtain ⟨i, h1, h2⟩ := hm
    exact hc ⟨i, by simpa using h1, h2⟩) (by
    intro x hx
    rw [List.mem_cons] at hx
    rw [List.mem_range]
    rcases hx with rfl | hx
    · exact hk
    · rw [List.mem_map] at hx
      obtain ⟨i, h1, rfl⟩ := hx
      exact hf i (by simpa using h1))
  simp at h
  omega
theorem at_onto {o : O} (h : Right o) {i : Nat} (hi : i < 32) : ∃ p, p < 32 ∧ at_ o p = i :=
  onto (fun p hp => (at_spec h hp).1) (fun p q hp hq e => by
    have h1 := (at_spec h hp).2
    have h2 := (at_spec h hq).2
    rw [e] at h1
    omega) i hi
theorem Right.pl {o : O} (h : Right o) {i : Nat} (hi : i < 32) : o i = ((Od.pl o i : Nat) : Int) ∧ Od.pl o i < 32 ∧ at_ o (Od.pl o i) = i := by
  obtain ⟨p, hp, rfl⟩ := at_onto h hi
  have e := (at_spec h hp).2
  have e2 : Od.pl o (at_ o p) = p := by unfold Od.pl; rw [e]; rfl
  rw [e2]
  exact ⟨e, hp, rfl⟩
theorem Right.pl_at {o : O} (h : Right o) {p : Nat} (hp : p < 32) : Od.pl o (at_ o p) = p := by
  unfold Od.pl; rw [(at_spec h hp).2]; rfl
theorem Right.inj {o : O} (h : Right o) {i j : Nat} (hi : i < 32) (hj : j < 32) (e : o i = o j) : i = j := by
  have h1 := h.pl hi
  have h2 := h.pl hj
  have : Od.pl o i = Od.pl o j := by unfold Od.pl; rw [e]
  rw [← h1.2.2, ← h2.2.2, this]
theorem Right.at_eq {o : O} (h : Right o) {i p : Nat} (hi : i < 32) (e : o i = (p : Int)) : p < 32 ∧ at_ o p = i := by
  have h1 := h.pl hi
  have : Od.pl o i = p := by unfold Od.pl; rw [e]; rfl
  rw [this] at h1
  exact ⟨h1.2.1, h1.2.2⟩
theorem Right.at_inj {o : O} (h : Right o) {p q : Nat} (hp : p < 32) (hq : q < 32) (e : at_ o p = at_ o q) : p = q := by
  rw [← h.pl_at hp, ← h.pl_at hq, e]
theorem Right.ok {o : O} (h : Right o) : Ok o := fun i hi => by
  have := h.pl hi
  omega
/-- nodes, by rising places; those of a set; the places of a set. -/
def row (o : O) : List Nat := (List.range 32).map (at_ o)
def placesOf (o : O) (s : Nat) : List Nat := (List.range 32).filter fun p => s.testBit (at_ o p)
def standing (o : O) (s : Nat) : List Nat := (row o).filter fun i => s.testBit i
theorem standing_eq (o : O) (s : Nat) : standing o s = (placesOf o s).map (at_ o) := by
  unfold standing row placesOf
  rw [List.filter_map]
  rfl
theorem row_len (o : O) : (row o).length = 32 := by simp [row]
theorem row_get {o : O} {p : Nat} (hp : p < 32) : (row o)[p]? = some (at_ o p) := by simp [row, hp]
theorem places_len (o : O) (s : Nat) : (placesOf o s).length ≤ 32 := by
  have := List.length_filter_le (fun p => s.testBit (at_ o p)) (List.range 32)
  simpa [placesOf] using this
theorem standing_len (o : O) (s : Nat) : (standing o s).length ≤ 32 := by rw [standing_eq, List.length_map]; exact places_len o s
theorem places_rise (o : O) (s : Nat) : (placesOf o s).Pairwise (· < ·) := by
  unfold placesOf; exact List.Pairwise.filter _ List.pairwise_lt_range
theorem places_mem {o : O} {s p : Nat} : p ∈ placesOf o s ↔ p < 32 ∧ s.testBit (at_ o p) = true := by
  unfold placesOf; rw [List.mem_filter, List.mem_range]
theorem standing_mem {o : O} (h : Right o) {s i : Nat} : i ∈ standing o s ↔ i < 32 ∧ s.testBit i = true := by
  rw [standing_eq, List.mem_map]
  constructor
  · rintro ⟨p, hp, rfl⟩
    have hp := places_mem.1 hp
    exact ⟨(at_spec h hp.1).1, hp.2⟩
  · rintro ⟨hi, hs⟩
    have h1 := h.pl hi
    exact ⟨Od.pl o i, places_mem.2 ⟨h1.2.1, by rw [h1.2.2]; exact hs⟩, h1.2.2⟩
theorem rise_get {l : List Nat} (h : l.Pairwise (· < ·)) {i j : Nat} (hij : i < j) (hj : j < l.length) : l[i]'(by omega) < l[j] := by
  rw [List.pairwise_iff_getElem] at h
  exact h i j (by omega) hj hij
theorem rise_inv {l : List Nat} (h : l.Pairwise (· < ·)) {i j : Nat} (hi : i < l.length) (hj : j < l.length) (hlt : l[i] < l[j]) : i < j := by
  rcases Nat.lt_trichotomy i j with h1 | h1 | h1
  · exact h1
  · subst h1; omega
  · have := rise_get h h1 hi; omega
theorem sub_low {A P : List Nat} (hs : A.Sublist P) (hP : P.Pairwise (· < ·)) (i : Nat) (hi : i < A.length) : P[i]'(by have := hs.length_le; omega) ≤ A[i] := by
  induction hs generalizing i with
  | slnil => simp at hi
  | @cons A P p hs ih =>
    rw [List.pairwise_cons] at hP
    have h1 := ih hP.2
    cases i with
    | zero =>
      have h2 := h1 0 hi
      have h3 := hP.1 (P[0]'(by have := hs.length_le; omega)) (List.getElem_mem _)
      simp
      omega
    | succ i =>
      have h2 := h1 i (by omega)
      have h3 : A[i] < A[i + 1] := rise_get (hP.2.sublist hs) (Nat.lt_succ_self i) hi
      show P[i]'(by have := hs.length_le; omega) ≤ A[i + 1]
      omega
  | @cons_cons A P a hs ih =>
    rw [List.pairwise_cons] at hP
    cases i with
    | zero => simp
    | succ i =>
      simp at hi
      have := ih hP.2 i hi
      simpa using this
theorem sub_high {A P : List Nat} (hs : A.Sublist P) (hP : P.Pairwise (· < ·)) (i : Nat) (hi : i < A.length) : A[i] ≤ P[P.length - A.length + i]'(by have := hs.length_le; omega) := by
  induction hs generalizing i with
  | slnil => simp at hi
  | @cons A P p hs ih =>
    rw [List.pairwise_cons] at hP
    have h1 := ih hP.2 i hi
    have hl := hs.length_le
    have e : (p :: P).length - A.length + i = (P.length - A.length + i) + 1 := by simp; omega
    simp only [e, List.getElem_cons_succ]
    exact h1
  | @cons_cons A P a hs ih =>
    rw [List.pairwise_cons] at hP
    have hl := hs.length_le
    cases i with
    | zero =>
      have e : (a :: P).length - (a :: A).length + 0 = P.length - A.length := by simp
      simp only [e, List.getElem_cons_zero]
      have key : ∀ x, x ∈ a :: P → a ≤ x := fun x hx => by
        rw [List.mem_cons] at hx
        rcases hx with rfl | hx
        · exact Nat.le_refl _
        · exact Nat.le_of_lt (hP.1 x hx)
      exact key _ (List.getElem_mem _)
    | succ i =>
      simp at hi
      have := ih hP.2 i hi
      have e : (a :: P).length - (a :: A).length + (i + 1) = (P.length - A.length + i) + 1 := by simp; omega
      simp only [e, List.getElem_cons_succ]
      exact this
theorem filter_or {l : List Nat} {p q : Nat → Bool} (h : ∀ x, x ∈ l → ¬ (p x = true ∧ q x = true)) : (l.filter fun x => p x || q x).length = (l.filter p).length + (l.filter q).length := by
  induction l with
  | nil => rfl
  | cons a l ih =>
    have ih := ih fun x hx => h x (by simp [hx])
    have ha := h a (by simp)
    rw [List.filter_cons, List.filter_cons, List.filter_cons]
    cases hp : p a <;> cases hq : q a <;> simp [hp, hq] at ha ⊢ <;> simp [ih] <;> omega
/-- one place given anew; a row of these. -/
def upd (o : O) (i : Nat) (p : Int) : O := fun j => if j = i then p else o j
def give (o : O) : List (Nat × Nat) → O
  | [] => o
  | (i, p) :: l => give (upd o i (p : Nat)) l
theorem give_append (o : O) (l k : List (Nat × Nat)) : give o (l ++ k) = give (give o l) k := by
  induction l generalizing o with
  | nil => rfl
  | cons a l ih => exact ih _
theorem give_out {o : O} {l : List (Nat × Nat)} {i : Nat} (h : ∀ x, x ∈ l → x.1 ≠ i) : give o l i = o i := by
  induction l generalizing o with
  | nil => rfl
  | cons a l ih =>
    show give (upd o a.1 (a.2 : Nat)) l i = o i
    rw [ih fun x hx => h x (by simp [hx])]
    unfold upd
    rw [if_neg (fun e => h a (by simp) e.symm)]
theorem give_in {o : O} {l : List (Nat × Nat)} (hn : (l.map (·.1)).Nodup) {i p : Nat} (h : (i, p) ∈ l) : give o l i = (p : Int) := by
  induction l generalizing o with
  | nil => simp at h
  | cons a l ih =>
    show give (upd o a.1 (a.2 : Nat)) l i = _
    rw [List.map_cons, List.nodup_cons] at hn
    rw [List.mem_cons] at h
    rcases h with rfl | h
    · rw [give_out fun x hx e => hn.1 (List.mem_map.2 ⟨x, hx, e⟩)]
      simp [upd]
    · exact ih hn.2 h
theorem give_step {o : O} {L P : List Nat} {k i p : Nat} (hi : L[k]? = some i) (hp : P[k]? = some p) : upd (give o ((L.zip P).take k)) i (p : Nat) = give o ((L.zip P).take (k + 1)) := by
  have hz : (L.zip P)[k]? = some (i, p) := by
    rw [List.getElem?_zip_eq_some]; exact ⟨hi, hp⟩
  obtain ⟨hl, e⟩ := List.getElem?_eq_some_iff.1 hz
  rw [List.take_succ_eq_append_getElem hl, give_append, e]
  rfl
/-- the places that hind and fore had, rising, first to hind, then to fore. -/
def relay (o : O) (H F : Nat) : O := give o ((standing o H ++ standing o F).zip (placesOf o (H ||| F)))
section
variable {o : O} {H F : Nat}
/-- no node is in both. -/
def Apart (H F : Nat) : Prop := ∀ i, i < 32 → ¬ (H.testBit i = true ∧ F.testBit i = true)
theorem places_or (o : O) (H F : Nat) : placesOf o (H ||| F) = (List.range 32).filter fun p => H.testBit (at_ o p) || F.testBit (at_ o p) := by
  unfold placesOf; congr 1; funext p; rw [Nat.testBit_or]
theorem relay_len (h : Right o) (ha : Apart H F) : (placesOf o (H ||| F)).length = (placesOf o H).length + (placesOf o F).length := by
  rw [places_or]
  exact filter_or fun p hp => ha _ (at_spec h (by simpa using hp)).1
theorem sub_left (o : O) (H F : Nat) : (placesOf o H).Sublist (placesOf o (H ||| F)) := by
  have : placesOf o H = (placesOf o (H ||| F)).filter fun p => H.testBit (at_ o p) := by
    rw [places_or, List.filter_filter]
    unfold placesOf
    congr 1; funext p
    cases H.testBit (at_ o p) <;> simp
  rw [this]
  exact List.filter_sublist
theorem sub_right (o : O) (H F : Nat) : (placesOf o F).Sublist (placesOf o (H ||| F)) := by
  rw [Nat.or_comm]; exact sub_left o F H
theorem nodup_standing (h : Right o) (s : Nat) : (standing o s).Nodup := by
  rw [standing_eq]
  unfold List.Nodup
  rw [List.pairwise_map]
  refine List.Pairwise.imp_of_mem ?_ (places_rise o s)
  intro x y hx hy hlt e
  have := h.at_inj (places_mem.1 hx).1 (places_mem.1 hy).1 e
  omega
theorem nodup_both (h : Right o) (ha : Apart H F) : (standing o H ++ standing o F).Nodup := by
  rw [List.nodup_append]
  refine ⟨nodup_standing h H, nodup_standing h F, fun x hx y hy e => ?_⟩
  subst e
  have h1 := (standing_mem h).1 hx
  have h2 := (standing_mem h).1 hy
  exact ha x h1.1 ⟨h1.2, h2.2⟩
theorem both_len (h : Right o) (ha : Apart H F) : (standing o H ++ standing o F).length = (placesOf o (H ||| F)).length := by
  rw [relay_len h ha, List.length_append, standing_eq, standing_eq, List.length_map, List.length_map]
theorem relay_keys (h : Right o) (ha : Apart H F) : (((standing o H ++ standing o F).zip (placesOf o (H ||| F))).map (·.1)) = standing o H ++ standing o F := by
  have : ((standing o H ++ standing o F).zip (placesOf o (H ||| F))).map Prod.fst = standing o H ++ standing o F :=
    List.map_fst_zip (Nat.le_of_eq (both_len h ha))
  exact this
theorem relay_at (h : Right o) (ha : Apart H F) {k x p : Nat} (hx : (standing o H ++ standing o F)[k]? = some x) (hp : (placesOf o (H ||| F))[k]? = some p) : relay o H F x = (p : Int) := by
  unfold relay
  refine give_in (by rw [relay_keys h ha]; exact nodup_both h ha) ?_
  have : ((standing o H ++ standing o F).zip (placesOf o (H ||| F)))[k]? = some (x, p) := by
    rw [List.getElem?_zip_eq_some]; exact ⟨hx, hp⟩
  exact List.mem_of_getElem? this
theorem relay_out (h : Right o) {x : Nat} (h1 : H.testBit x = false) (h2 : F.testBit x = false) : relay o H F x = o x := by
  unfold relay
  refine give_out fun y hy e => ?_
  have hm : y.1 ∈ standing o H ++ standing o F := (List.of_mem_zip (a := y.1) (b := y.2) hy).1
  rw [e, List.mem_append] at hm
  rcases hm with hm | hm
  · rw [((standing_mem h).1 hm).2] at h1; cases h1
  · rw [((standing_mem h).1 hm).2] at h2; cases h2
/-- a node of hind has the place that stands where it stands in hind. -/
theorem relay_hind (h : Right o) (ha : Apart H F) {x : Nat} (hx : x < 32) (hH : H.testBit x = true) :
    ∃ k, ∃ (h1 : k < (placesOf o H).length) (h2 : k < (placesOf o (H ||| F)).length), (placesOf o H)[k] = pl o x ∧ relay o H F x = ((placesOf o (H ||| F))[k] : Nat) := by
  have hp := h.pl hx
  have hm : pl o x ∈ placesOf o H := places_mem.2 ⟨hp.2.1, by rw [hp.2.2]; exact hH⟩
  obtain ⟨k, hk, e⟩ := List.mem_iff_getElem.1 hm
  have hl := relay_len h ha
  refine ⟨k, hk, by omega, e, ?_⟩
  refine relay_at h ha (k := k) ?_ (List.getElem?_eq_getElem _)
  rw [List.getElem?_append_left (by rw [standing_eq, List.length_map]; exact hk), standing_eq, List.getElem?_map, List.getElem?_eq_getElem hk, e]
  simp [hp.2.2]
theorem relay_fore (h : Right o) (ha : Apart H F) {x : Nat} (hx : x < 32) (hF : F.testBit x = true) :
    ∃ k, ∃ (h1 : k < (placesOf o F).length) (h2 : (placesOf o H).length + k < (placesOf o (H ||| F)).length), (placesOf o F)[k] = pl o x ∧ relay o H F x = ((placesOf o (H ||| F))[(placesOf o H).length + k] : Nat) := by
  have hp := h.pl hx
  have hm : pl o x ∈ placesOf o F := places_mem.2 ⟨hp.2.1, by rw [hp.2.2]; exact hF⟩
  obtain ⟨k, hk, e⟩ := List.mem_iff_getElem.1 hm
  have hl := relay_len h ha
  have hs : (standing o H).length = (placesOf o H).length := by rw [standing_eq, List.length_map]
  refine ⟨k, hk, by omega, e, ?_⟩
  refine relay_at h ha (k := (placesOf o H).length + k) ?_ (List.getElem?_eq_getElem _)
  rw [List.getElem?_append_right (by rw [hs]; omega), hs, Nat.add_sub_cancel_left, standing_eq, List.getElem?_map, List.getElem?_eq_getElem hk, e]
  simp [hp.2.2]
theorem relay_mem (h : Right o) (ha : Apart H F) {x : Nat} (hx : x < 32) (hs : H.testBit x = true ∨ F.testBit x = true) : ∃ p : Nat, p ∈ placesOf o (H ||| F) ∧ relay o H F x = (p : Int) := by
  rcases hs with hs | hs
  · obtain ⟨k, _, h2, _, e⟩ := relay_hind h ha hx hs
    exact ⟨_, List.getElem_mem h2, e⟩
  · obtain ⟨k, _, h2, _, e⟩ := relay_fore h ha hx hs
    exact ⟨_, List.getElem_mem h2, e⟩
theorem relay_right (h : Right o) (ha : Apart H F) : Right (relay o H F) := by
  intro p hp
  have hsp := at_spec h hp
  by_cases hm : p ∈ placesOf o (H ||| F)
  · obtain ⟨k, hk, e⟩ := List.mem_iff_getElem.1 hm
    have hl := both_len h ha
    have hx : (standing o H ++ standing o F)[k]? = some ((standing o H ++ standing o F)[k]'(by omega)) := List.getElem?_eq_getElem _
    refine ⟨_, ?_, relay_at h ha hx (by rw [List.getElem?_eq_getElem hk, e])⟩
    have hmm := List.mem_of_getElem? hx
    rw [List.mem_append] at hmm
    rcases hmm with hmm | hmm <;> exact ((standing_mem h).1 hmm).1
  · refine ⟨at_ o p, hsp.1, ?_⟩
    have hn : (H ||| F).testBit (at_ o p) = false := by
      cases hb : (H ||| F).testBit (at_ o p)
      · rfl
      · exact absurd (places_mem.2 ⟨hp, hb⟩) hm
    rw [Nat.testBit_or, Bool.or_eq_false_iff] at hn
    rw [relay_out h hn.1 hn.2, hsp.2]
theorem relay_low (h : Right o) (ha : Apart H F) {x : Nat} (hx : x < 32) (hH : H.testBit x = true) : relay o H F x ≤ o x := by
  obtain ⟨k, h1, h2, e1, e2⟩ := relay_hind h ha hx hH
  have := sub_low (sub_left o H F) (places_rise _ _) k h1
  rw [e2, (h.pl hx).1, ← e1]
  omega
theorem relay_high (h : Right o) (ha : Apart H F) {x : Nat} (hx : x < 32) (hF : F.testBit x = true) : o x ≤ relay o H F x := by
  obtain ⟨k, h1, h2, e1, e2⟩ := relay_fore h ha hx hF
  have hl := relay_len h ha
  have := sub_high (sub_right o H F) (places_rise _ _) k h1
  have e : (placesOf o (H ||| F)).length - (placesOf o F).length + k = (placesOf o H).length + k := by omega
  simp only [e] at this
  rw [e2, (h.pl hx).1, ← e1]
  omega
theorem relay_hh (h : Right o) (ha : Apart H F) {x y : Nat} (hx : x < 32) (hy : y < 32) (h1 : H.testBit x = true) (h2 : H.testBit y = true) (hlt : o x < o y) : relay o H F x < relay o H F y := by
  obtain ⟨k, a1, a2, e1, e2⟩ := relay_hind h ha hx h1
  obtain ⟨l, b1, b2, f1, f2⟩ := relay_hind h ha hy h2
  have hp := (h.pl hx).1
  have hq := (h.pl hy).1
  have hkl := rise_inv (places_rise o H) a1 b1 (by omega)
  have := rise_get (places_rise o (H ||| F)) hkl b2
  rw [e2, f2]; omega
theorem relay_ff (h : Right o) (ha : Apart H F) {x y : Nat} (hx : x < 32) (hy : y < 32) (h1 : F.testBit x = true) (h2 : F.testBit y = true) (hlt : o x < o y) : relay o H F x < relay o H F y := by
  obtain ⟨k, a1, a2, e1, e2⟩ := relay_fore h ha hx h1
  obtain ⟨l, b1, b2, f1, f2⟩ := relay_fore h ha hy h2
  have hp := (h.pl hx).1
  have hq := (h.pl hy).1
  have hkl := rise_inv (places_rise o F) a1 b1 (by omega)
  have := rise_get (places_rise o (H ||| F)) (Nat.add_lt_add_left hkl (placesOf o H).length) b2
  rw [e2, f2]; omega
theorem relay_hf (h : Right o) (ha : Apart H F) {x y : Nat} (hx : x < 32) (hy : y < 32) (h1 : H.testBit x = true) (h2 : F.testBit y = true) : relay o H F x < relay o H F y := by
  obtain ⟨k, a1, a2, e1, e2⟩ := relay_hind h ha hx h1
  obtain ⟨l, b1, b2, f1, f2⟩ := relay_fore h ha hy h2
  have := rise_get (places_rise o (H ||| F)) (show k < (placesOf o H).length + l by omega) b2
  rw [e2, f2]; omega
end
end Go.Proofs.YtakoceablbgchaaDoor.Od
