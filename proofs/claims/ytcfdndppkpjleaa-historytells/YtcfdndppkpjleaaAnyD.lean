/-
  What AnyZ has, for regions whose last operation waits for others by way of others: while number i has not come up none of D has, if each of D waits for i, or for one of D.
-/
import Derived.Test.YtcfdndppkpjleaaAnyZ
namespace Go.Proofs.Ytcfdndppkpjleaa.Az
open Go.RowKit
section
variable {P : Program} {ops : Array Oper} {Q : Exit → Go.Act → World → Prop} {md : Region.Mode} {S : World → Prop} {z e : Nat}
theorem anyZ_firstD {i : Nat} {oi : Oper} {v : Value} (D : List Nat) (hi : ops[i]? = some oi) (hsel : ∀ (j : Nat) (o : Oper) cs b, ops[j]? = some o → o.op ≠ .select cs b)
    (hQ : ∀ c a w, Q (.panic c) (a.put oi.dst v) w → Q (.panic c) a w) (hD : ∀ j ∈ D, ∃ oz, ops[j]? = some oz ∧ ∃ f ∈ oz.after, Region.binds md f = true ∧ (f.on = i ∨ f.on ∈ D)) (hz : ∀ j, z ≤ j → j ≠ e → j < ops.size → j ∈ D) (hiD : i ∉ D) :
    ∀ (fuel : Nat) (listed : Array Bool) (a : Go.Act) (w : World),
      (∀ j oj, ops[j]? = some oj → j ≠ i → listed.getD j true = false → (∀ f ∈ oj.after, Region.binds md f = true → f.on ≠ i) → oi.apart ops oj = true) → (∀ j ∈ D, listed.getD j true = false) →
      i ∈ Region.ready md ops listed → YieldsIf P ops S oi v a → S w →
      anyZ P md ops Q S z e fuel (listed.setIfInBounds i true) (a.put oi.dst v) w → anyZ P md ops Q S z e (fuel + 1) listed a w := by
  intro fuel
  induction fuel with
  | zero =>
    intro listed a w _ _ hr hy hS H
    refine ⟨fun h => (by rw [h] at hr; cases hr), fun j hj => ?_⟩
    by_cases he : j = i
    · subst he; exact hy.wpOp hi hS ⟨⟨fun _ _ => hS, fun _ h => h⟩, H⟩
    · have := ready_mono hj he
      rw [H.1] at this; cases this
  | succ fuel ih =>
    intro listed a w hfree hun' hr hy hS H
    refine ⟨fun h => (by rw [h] at hr; cases hr), fun j hj => ?_⟩
    by_cases he : j = i
    · subst he; exact hy.wpOp hi hS ⟨⟨fun _ _ => hS, fun _ h => h⟩, H⟩
    · obtain ⟨hun, oj, hoj, hall⟩ := mem_ready.1 hj
      have hno := ready_wait hr hj hoj
      have hjD : j ∉ D := fun hjD => by
        obtain ⟨oz, hoz, f, hf, hfb, hfo⟩ := hD j hjD
        obtain rfl : oj = oz := Option.some.inj (hoj.symm.trans hoz)
        rcases hfo with hfo | hfo
        · exact absurd hfo (hno f hf hfb)
        · have e1 := hall f hf hfb
          have e2 := hun' f.on hfo
          by_cases hl : f.on < listed.size
          · simp [hl] at e1 e2; rw [e1] at e2; cases e2
          · simp [hl] at e1
      have hjz : j < z ∨ j = e := by
        rcases Nat.lt_or_ge j z with h | h
        · exact .inl h
        · by_cases hje : j = e
          · exact .inr hje
          · exact absurd (hz j h hje (Array.getElem?_eq_some_iff.1 hoj).1) hjD
      have h2 := wpOp_putIf hoj (hfree j oj hoj he hun hno) (fun cs b => hsel i oi cs b hi) (fun cs b => hsel j oj cs b hoj) hQ hy (H.2 j (ready_mono hj he))
      refine wpOp_mono (fun a' w' h3 => ?_) h2
      have hS' : S w' := by
        by_cases hje : j = e
        · exact h3.2.1.stays hje hS
        · rcases hjz with h | h
          · exact h3.2.1.strict h hje
          · exact absurd h hje
      refine ⟨h3.2.1, ih (listed.setIfInBounds j true) a' w' (fun k ok hk hki hu hn => hfree k ok hk hki (set_of listed hu) hn) (fun k hk => ?_) (ready_mono hr (Ne.symm he)) h3.1 hS' ?_⟩
      · rw [getD_set_ne true (show j ≠ k from fun h => hjD (by rw [h]; exact hk))]; exact hun' k hk
      · rw [Array.setIfInBounds_comm _ _ he]
        exact h3.2.2
def waitsD (md : Region.Mode) (ops : Array Oper) (listed : Array Bool) (z e i : Nat) (D : List Nat) : Bool :=
  D.all (fun j => !(listed.getD j true) && (ops[j]?.map fun oz => oz.after.any fun f => Region.binds md f && (f.on == i || D.contains f.on)).getD false) && ((List.range ops.size).all fun j => decide (j < z) || j == e || D.contains j) && !(D.contains i)
theorem take_d (D : List Nat) (i d : Nat) (v : Value) {oi : Oper} {fuel : Nat} {listed : Array Bool} {a : Go.Act} {w : World} (hi : ops[i]? = some oi) (hd : oi.dst = some d)
    (hs : Region.noSelect ops = true) (hf : Region.free md ops listed i = true) (hr : (Region.ready md ops listed).contains i = true) (hz : waitsD md ops listed z e i D = true)
    (hQ : ∀ c a w, Q (.panic c) (a.put oi.dst v) w → Q (.panic c) a w) (hy : YieldsIf P ops S oi v a) (hS : S w)
    (h : anyZ P md ops Q S z e fuel (listed.setIfInBounds i true) (a.put (some d) v) w) : anyZ P md ops Q S z e (fuel + 1) listed a w := by
  unfold waitsD at hz
  simp only [Bool.and_eq_true] at hz
  obtain ⟨⟨h1, h2⟩, h3⟩ := hz
  rw [List.all_eq_true] at h1 h2
  refine anyZ_firstD D hi (Region.noSelect_spec hs) hQ (fun j hj => ?_) (fun j h0 h4 h5 => ?_) (fun hm => by simp [hm] at h3) fuel listed a w (Region.free_spec hi hf) (fun j hj => ?_) (by simpa using hr) hy hS (by rw [hd]; exact h)
  · have := h1 j hj
    simp only [Bool.and_eq_true] at this
    cases ho : ops[j]? with
    | none => rw [ho] at this; simp at this
    | some oz =>
      rw [ho] at this
      simp only [Option.map_some, Option.getD_some, Array.any_eq_true, Bool.and_eq_true] at this
      obtain ⟨_, k, hk, hb, ho2⟩ := this
      refine ⟨oz, rfl, oz.after[k], Array.getElem_mem hk, hb, ?_⟩
      simp only [Bool.or_eq_true, beq_iff_eq, List.contains_iff_mem] at ho2
      exact ho2
  · have := h2 j (by simpa using h5)
    simp only [Bool.or_eq_true, decide_eq_true_eq, beq_iff_eq, List.contains_iff_mem] at this
    rcases this with (h | h) | h
    · omega
    · exact absurd h h4
    · exact h
  · have := h1 j hj
    simp only [Bool.and_eq_true] at this
    simpa using this.1
end
end Go.Proofs.Ytcfdndppkpjleaa.Az
