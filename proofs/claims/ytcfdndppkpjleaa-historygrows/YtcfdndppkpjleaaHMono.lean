/-
  What more events change of a row of courses, and of its graph: no program in it.
-/
import Derived.Test.YtcfdndppkpjleaaHGrM
namespace Go.Proofs.Ytcfdndppkpjleaa.Hi
/-- how a course goes on behind n events. -/
structure Mo (n : Nat) (c' c : Cr) : Prop where
  b : c.b = c'.b
  e : c'.e ≠ never → c.e = c'.e
  live : c'.e = never → n ≤ c.e
  left : ∀ x, left c' x = true → left c x = true
  rd : ∀ x k, c'.rd x = some k → c.rd x = some k
  back : ∀ x, Hi.left c x = true → c.e < n → Hi.left c' x = true ∧ c'.e = c.e
theorem Mo.refl {n : Nat} (hn : n ≤ 2000) (c : Cr) : Mo n c c := ⟨rfl, fun _ => rfl, fun h => by rw [h]; unfold never; omega, fun _ h => h, fun _ _ h => h, fun _ h _ => ⟨h, rfl⟩⟩
theorem not_left {c : Cr} (h : c.com = false) (x : Int) : left c x = false := by unfold left; rw [h]; rfl
theorem Mo.note {n N : Nat} {c' c : Cr} {e : Ev} (h : Mo n c' c) (hn : n ≤ N) (_ : N ≤ 2000) (ho : over c = false) (hc : c.com = true → c.e ≠ never) (hk : e.kd = 1 ∨ e.kd = 2 ∨ e.kd = 3 ∨ e.kd = 4) : Mo n c' (note c N e) := by
  have he : c.e = never := by simpa [over] using ho
  have hcom : c.com = false := by
    cases hh : c.com with
    | false => rfl
    | true => exact absurd he (hc hh)
  have hl : ∀ x, Hi.left c x = false := not_left hcom
  have hl' : ∀ x, Hi.left c' x = false := fun x => by
    cases hh : Hi.left c' x with
    | false => rfl
    | true => have := h.left x hh; rw [hl] at this; cases this
  have he' : c'.e = never := Classical.byContradiction fun hh => by have := h.e hh; rw [he] at this; exact hh this.symm
  unfold Hi.note
  rcases hk with hk | hk | hk | hk
  · rw [if_pos hk]
    split
    · rename_i hx
      refine ⟨h.b, h.e, h.live, (fun x hh => by rw [hl'] at hh; cases hh), fun x k hh => ?_, fun x hh => ?_⟩
      · have := h.rd x k hh
        show upd c.rd e.x N x = some k
        unfold upd
        rw [if_neg (fun e => by subst e; rw [this] at hx; cases hx.1)]
        exact this
      · have : Hi.left c x = true := hh
        rw [hl] at this; cases this
    · exact h
  · rw [if_neg (by omega), if_pos hk]
    refine ⟨h.b, h.e, h.live, (fun x hh => by rw [hl'] at hh; cases hh), h.rd, fun x hh => ?_⟩
    rw [not_left (c := ⟨c.b, c.e, c.com, c.rd, upd c.wr e.x N⟩) hcom] at hh; cases hh
  · rw [if_neg (by omega), if_neg (by omega)]
    exact ⟨h.b, fun hh => absurd he' hh, fun _ => hn, (fun x hh => by rw [hl'] at hh; cases hh), h.rd, fun x _ hh => by have : N < n := hh; omega⟩
  · rw [if_neg (by omega), if_neg (by omega)]
    exact ⟨h.b, fun hh => absurd he' hh, fun _ => hn, (fun x hh => by rw [hl'] at hh; cases hh), h.rd, fun x _ hh => by have : N < n := hh; omega⟩
/-- behind more events. -/
structure Mr (n : Nat) (l' l : List Cr) : Prop where
  old : ∀ (i : Nat) (c' : Cr), l'[i]? = some c' → ∃ c, l[i]? = some c ∧ Mo n c' c
  new : ∀ (i : Nat) (c : Cr), l'.length ≤ i → l[i]? = some c → n ≤ c.b
theorem Mr.len {n : Nat} {l' l : List Cr} (h : Mr n l' l) : l'.length ≤ l.length := by
  rcases Nat.eq_zero_or_pos l'.length with h0 | h0
  · omega
  · obtain ⟨c, hc, _⟩ := h.old (l'.length - 1) _ (List.getElem?_eq_getElem (by omega))
    have := (List.getElem?_eq_some_iff.1 hc).1
    omega
theorem run_pre {a b : List Ev} {l : List Cr} (h : run 0 [] (a ++ b) = some l) : ∃ l', run 0 [] a = some l' := by
  rw [run_append] at h
  cases ha : run 0 [] a with
  | none => rw [ha] at h; cases h
  | some l' => exact ⟨l', rfl⟩
theorem run_last {a : List Ev} {e : Ev} {l : List Cr} (h : run 0 [] (a ++ [e]) = some l) : ∃ l', run 0 [] a = some l' ∧ fits l' e = true ∧ l = step l' a.length e := by
  obtain ⟨l', ha⟩ := run_pre h
  rw [run_snoc ha] at h
  by_cases hf : fits l' e = true
  · rw [if_pos hf, Nat.zero_add] at h
    exact ⟨l', ha, hf, (Option.some.inj h).symm⟩
  · rw [if_neg hf] at h; cases h
theorem run_mono {a : List Ev} {l' : List Cr} (ha : run 0 [] a = some l') (b : List Ev) : ∀ l, run 0 [] (a ++ b) = some l → (a ++ b).length ≤ 2000 → Mr a.length l' l := by
  refine rev_ind (P := fun b => ∀ l, run 0 [] (a ++ b) = some l → (a ++ b).length ≤ 2000 → Mr a.length l' l) ?_ ?_ b
  · intro l h hl
    rw [List.append_nil] at h hl
    rw [ha] at h
    obtain rfl := Option.some.inj h
    exact ⟨fun i c hc => ⟨c, hc, Mo.refl hl c⟩, fun i c hi hc => by have := (List.getElem?_eq_some_iff.1 hc).1; omega⟩
  · intro b e ih l h hl
    rw [← List.append_assoc] at h hl
    obtain ⟨l1, h1, hf, rfl⟩ := run_last h
    have hl1 : (a ++ b).length ≤ 2000 := by rw [List.length_append] at hl; omega
    have hm := ih l1 h1 hl1
    have hok := run_ok h1 hl1
    have hab : a.length ≤ (a ++ b).length := by rw [List.length_append]; omega
    by_cases h0 : e.kd = 0
    · rw [step_begin _ h0]
      refine ⟨fun i c' hc' => ?_, fun i c hi hc => ?_⟩
      · obtain ⟨c, hc, hmo⟩ := hm.old i c' hc'
        exact ⟨c, by rw [List.getElem?_append_left (List.getElem?_eq_some_iff.1 hc).1]; exact hc, hmo⟩
      · by_cases hil : i < l1.length
        · rw [List.getElem?_append_left hil] at hc; exact hm.new i c hi hc
        · rw [List.getElem?_append_right (by omega)] at hc
          have hi' := (List.getElem?_eq_some_iff.1 hc).1
          simp at hi'
          have e0 : i - l1.length = 0 := by omega
          rw [e0] at hc
          obtain rfl := Option.some.inj hc
          exact hab
    · obtain ⟨j, d, hj, hd, ho⟩ := fits_at h0 hf
      rw [step_note _ h0 hj hd]
      have hkd : e.kd = 1 ∨ e.kd = 2 ∨ e.kd = 3 ∨ e.kd = 4 := by rcases fits_kd hf with h | h | h | h | h <;> omega
      have hbn : (note d (a ++ b).length e).b = d.b := by
        unfold note
        split
        · split <;> rfl
        · split <;> rfl
      have hset : ∀ (i : Nat) (c : Cr), l1[i]? = some c → ∃ c2, (l1.set j (note d (a ++ b).length e))[i]? = some c2 ∧ ((i ≠ j ∧ c2 = c) ∨ (i = j ∧ c = d ∧ c2 = note d (a ++ b).length e)) := fun i c hc => by
        have hil := (List.getElem?_eq_some_iff.1 hc).1
        by_cases e1 : i = j
        · subst e1
          rw [hd] at hc
          exact ⟨_, List.getElem?_set_self hil, .inr ⟨rfl, (Option.some.inj hc).symm, rfl⟩⟩
        · exact ⟨c, by rw [List.getElem?_set_ne (Ne.symm e1)]; exact hc, .inl ⟨e1, rfl⟩⟩
      refine ⟨fun i c' hc' => ?_, fun i c hi hc => ?_⟩
      · obtain ⟨c, hc, hmo⟩ := hm.old i c' hc'
        obtain ⟨c2, h2, h3⟩ := hset i c hc
        rcases h3 with ⟨_, rfl⟩ | ⟨rfl, rfl, rfl⟩
        · exact ⟨_, h2, hmo⟩
        · exact ⟨_, h2, hmo.note hab hl1 ho (hok.1 c (List.mem_of_getElem? hc)).com hkd⟩
      · have hil : i < l1.length := by have := (List.getElem?_eq_some_iff.1 hc).1; rwa [List.length_set] at this
        obtain ⟨c2, h2, h3⟩ := hset i _ (List.getElem?_eq_getElem hil)
        rw [hc] at h2
        obtain rfl := Option.some.inj h2
        have := hm.new i _ hi (List.getElem?_eq_getElem hil)
        rcases h3 with ⟨_, h3⟩ | ⟨_, h3, h4⟩
        · rw [h3]; exact this
        · rw [h4, hbn, ← h3]; exact this
/-- no two end by one event. -/
def Inj (l : List Cr) : Prop := ∀ (i j : Nat) (c d : Cr), l[i]? = some c → l[j]? = some d → c.e = d.e → c.e ≠ never → i = j
theorem run_inj {a : List Ev} {l : List Cr} (h : run 0 [] a = some l) (hn : a.length ≤ 2000) : Inj l := by
  refine run_ind (P := fun n a l => a.length ≤ 2000 → Inj l) (fun _ i j c d h => by simp at h) ?_ a l h hn
  intro a l e ha ih hf hlen
  rw [List.length_append] at hlen
  simp only [List.length_cons, List.length_nil] at hlen
  have hok := run_ok ha (by omega)
  have ih := ih (by omega)
  by_cases h0 : e.kd = 0
  · rw [step_begin _ h0]
    have hc : ∀ (i : Nat) (c : Cr), (l ++ [begun a.length])[i]? = some c → c.e ≠ never → l[i]? = some c := fun i c hi hc => by
      by_cases hil : i < l.length
      · rwa [List.getElem?_append_left hil] at hi
      · rw [List.getElem?_append_right (by omega)] at hi
        have hi' := (List.getElem?_eq_some_iff.1 hi).1
        simp at hi'
        have e0 : i - l.length = 0 := by omega
        rw [e0] at hi
        rw [← Option.some.inj hi] at hc
        exact absurd rfl hc
    intro i j c d hi hj he hne
    exact ih i j c d (hc i c hi hne) (hc j d hj (he ▸ hne)) he hne
  · obtain ⟨j0, d0, hj0, hd0, ho⟩ := fits_at h0 hf
    rw [step_note _ h0 hj0 hd0]
    have he0 : d0.e = never := by simpa [over] using ho
    have hne : (note d0 a.length e).e = never ∨ (note d0 a.length e).e = a.length := by
      unfold note
      split
      · split
        · exact .inl he0
        · exact .inl he0
      · split
        · exact .inl he0
        · exact .inr rfl
    have hlt : ∀ (i : Nat) (c : Cr), l[i]? = some c → c.e ≠ never → c.e < a.length := fun i c hi hc => by
      rcases (hok.1 c (List.mem_of_getElem? hi)).e with h | h
      · exact absurd h hc
      · exact h.2
    have hc : ∀ (i : Nat) (c : Cr), (l.set j0 (note d0 a.length e))[i]? = some c → (i = j0 ∧ c = note d0 a.length e) ∨ (i ≠ j0 ∧ l[i]? = some c) := fun i c hi => by
      by_cases e1 : i = j0
      · subst e1
        have hl := (List.getElem?_eq_some_iff.1 hi).1
        rw [List.length_set] at hl
        rw [List.getElem?_set_self hl] at hi
        exact .inl ⟨rfl, (Option.some.inj hi).symm⟩
      · rw [List.getElem?_set_ne (Ne.symm e1)] at hi
        exact .inr ⟨e1, hi⟩
    intro i j c d hi hj he hcn
    rcases hc i c hi with ⟨e1, rfl⟩ | ⟨e1, h1⟩
    · rcases hc j d hj with ⟨e2, rfl⟩ | ⟨e2, h2⟩
      · rw [e1, e2]
      · rcases hne with h | h
        · exact absurd h hcn
        · have := hlt j d h2 (he ▸ hcn); omega
    · rcases hc j d hj with ⟨e2, rfl⟩ | ⟨e2, h2⟩
      · rcases hne with h | h
        · rw [h] at he; exact absurd he hcn
        · have := hlt i c h1 hcn; omega
      · exact ih i j c d h1 h2 he hcn
/-- who is found is the last one. -/
theorem src_is {l : List Cr} (hj : Inj l) (hc : ∀ c ∈ l, c.com = true → c.e ≠ never) {x : Int} {n a : Nat} {c : Cr} (ha : l[a]? = some c) (hl : left c x = true) (he : c.e ≤ n) (ht : ∀ (i : Nat) (d : Cr), l[i]? = some d → left d x = true → d.e ≤ n → d.e ≤ c.e) : src l x n = (a : Int) := by
  have hal := (List.getElem?_eq_some_iff.1 ha).1
  rcases srcTo_spec l x n l.length (Nat.le_refl _) with ⟨_, h⟩ | ⟨b, d, h, hh⟩
  · exact absurd ⟨hl, he⟩ (h a c hal ha)
  · have h1 := hh.top a c hal ha hl he
    have h2 := ht b d hh.at_ hh.left hh.le
    have hcn : c.e ≠ never := hc c (List.mem_of_getElem? ha) (by unfold left at hl; simp at hl; exact hl.1)
    have : a = b := hj a b c d ha hh.at_ (by omega) hcn
    unfold src; rw [h, this]
theorem src_none {l : List Cr} {x : Int} {n : Nat} (h : ∀ (i : Nat) (d : Cr), l[i]? = some d → ¬ (left d x = true ∧ d.e ≤ n)) : src l x n = -1 := by
  rcases srcTo_spec l x n l.length (Nat.le_refl _) with ⟨h1, _⟩ | ⟨b, d, h1, hh⟩
  · exact h1
  · exact absurd ⟨hh.left, hh.le⟩ (h b d hh.at_)
theorem src_mono {n : Nat} {l' l : List Cr} (h : Mr n l' l) (hj : Inj l) (hc : ∀ c ∈ l, c.com = true → c.e ≠ never) (hb : ∀ c ∈ l, c.b ≤ c.e) {x : Int} {k : Nat} (hn : n ≤ 2000) (hk : k < n) : src l x k = src l' x k := by
  have hback : ∀ (i : Nat) (d : Cr), l[i]? = some d → left d x = true → d.e ≤ k → ∃ d', l'[i]? = some d' ∧ left d' x = true ∧ d'.e = d.e := fun i d hd hl he => by
    by_cases hi : i < l'.length
    · obtain ⟨c, h1, h2⟩ := h.old i _ (List.getElem?_eq_getElem hi)
      rw [hd] at h1
      obtain rfl := Option.some.inj h1
      have := h2.back x hl (by omega)
      exact ⟨_, List.getElem?_eq_getElem hi, this.1, this.2⟩
    · have h1 := h.new i d (by omega) hd
      have h2 := hb d (List.mem_of_getElem? hd)
      omega
  rcases srcTo_spec l' x k l'.length (Nat.le_refl _) with ⟨h1, h2⟩ | ⟨a, c', h1, hh⟩
  · have : src l' x k = -1 := h1
    rw [this]
    refine src_none fun i d hd hl => ?_
    obtain ⟨d', h3, h4, h5⟩ := hback i d hd hl.1 hl.2
    exact h2 i d' (List.getElem?_eq_some_iff.1 h3).1 h3 ⟨h4, by omega⟩
  · have : src l' x k = (a : Int) := h1
    rw [this]
    obtain ⟨c, hca, hmo⟩ := h.old a c' hh.at_
    have hle := hh.le
    have hce : c.e = c'.e := hmo.e (fun e => by rw [e] at hle; unfold never at hle; omega)
    refine src_is hj hc hca (hmo.left x hh.left) (by omega) fun i d hd hl he => ?_
    obtain ⟨d', h3, h4, h5⟩ := hback i d hd hl he
    have := hh.top i d' (List.getElem?_eq_some_iff.1 h3).1 h3 h4 (by omega)
    omega
/-- an event more takes no edge away. -/
theorem ge_mono {n : Nat} {l' l : List Cr} (h : Mr n l' l) (hn : n ≤ 2000) (h' : ∀ c ∈ l', Okc n c) (hj : Inj l) (hc : ∀ c ∈ l, c.com = true → c.e ≠ never) (hb : ∀ c ∈ l, c.b ≤ c.e) {i j : Nat} (hg : Ge l' i j) : Ge l i j := by
  have hcom : ∀ (i : Nat) (c : Cr) (x : Int), l'[i]? = some c → left c x = true → c.e ≠ never := fun i c x hi hl => (h' c (List.mem_of_getElem? hi)).com (by unfold left at hl; simp at hl; exact hl.1)
  obtain ⟨b, c', hb', hg⟩ := hg
  obtain ⟨c, hcb, hm⟩ := h.old b c' hb'
  have hbn := (h' c' (List.mem_of_getElem? hb')).b
  refine ⟨b, c, hcb, ?_⟩
  rcases hg with ⟨rfl, hij, d', hd', hg⟩ | ⟨x, k, hr, hg⟩
  · obtain ⟨d, hdi, hmd⟩ := h.old i d' hd'
    refine .inl ⟨rfl, hij, d, hdi, ?_⟩
    rcases hg with hg | ⟨hlt, x, h1, h2⟩
    · refine .inl ?_
      rw [hmd.e (fun e => by rw [e] at hg; unfold never at hg; omega), hm.b]; exact hg
    · refine .inr ⟨?_, x, hm.left x h1, hmd.left x h2⟩
      rw [hmd.e (hcom i d' x hd' h2), hm.e (hcom _ c' x hb' h1)]; exact hlt
  · have hrk := (h' c' (List.mem_of_getElem? hb')).rd x k hr
    refine .inr ⟨x, k, hm.rd x k hr, ?_⟩
    rcases hg with ⟨rfl, h1, h2⟩ | ⟨rfl, h1, d', hd', h2, h3⟩
    · exact .inl ⟨rfl, by rw [src_mono h hj hc hb hn hrk.2.2.2.1]; exact h1, h2⟩
    · obtain ⟨d, hdj, hmd⟩ := h.old j d' hd'
      refine .inr ⟨rfl, h1, d, hdj, hmd.left x h2, ?_⟩
      rw [hmd.e (hcom j d' x hd' h2)]; exact h3
end Go.Proofs.Ytcfdndppkpjleaa.Hi
