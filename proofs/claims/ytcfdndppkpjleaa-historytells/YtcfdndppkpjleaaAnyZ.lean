/-
  Regions that draw their order and end with one store, behind which nothing is held: all that only reads may be taken first, by what holds till then. One operation that is the same in every world may come at any time.
-/
import Derived.Test.YtcfdndppkpjleaaProg
import Derived.WalkKit
import Derived.Lib.Hide
import Derived.Below
import Derived.Deep.RegionHeld3
namespace Go.Proofs.Ytcfdndppkpjleaa.Az
open Go.RowKit
theorem put_laws : (∀ (a : Act) (d : Nat) (v : Value), a.put (some d) v = { a with tmps := a.tmps.setIfInBounds d v }) ∧ (∀ (l : List Value) (i : Nat) (v : Value), l.toArray.setIfInBounds i v = (l.set i v).toArray) ∧
    (∀ (x y : Value) (l : List Value), (x :: l).set 0 y = y :: l) ∧ (∀ (x y : Value) (l : List Value) (n : Nat), (x :: l).set (n + 1) y = x :: l.set n y) :=
  ⟨fun _ _ _ => rfl, fun _ _ _ => by simp, fun _ _ _ => rfl, fun _ _ _ _ => rfl⟩
section
variable {P : Program} {ops : Array Oper} {Q : Exit → Go.Act → World → Prop} {md : Region.Mode} {S : World → Prop} {z e : Nat}
/-- what is asked behind number j: S ahead of number z; of number e that S stays. -/
structure Held (S : World → Prop) (z e j : Nat) (w w' : World) : Prop where
  strict : j < z → j ≠ e → S w'
  stays : j = e → S w → S w'
/-- whatever order is picked, what is asked holds behind each operation. -/
def anyZ (P : Program) (md : Region.Mode) (ops : Array Oper) (Q : Exit → Go.Act → World → Prop) (S : World → Prop) (z e : Nat) : Nat → Array Bool → Go.Act → World → Prop
  | 0, listed, a, w => Region.ready md ops listed = [] ∧ Q .normal a w
  | fuel + 1, listed, a, w => (Region.ready md ops listed = [] → Q .normal a w) ∧ ∀ i ∈ Region.ready md ops listed, wpOp P ops Q i (fun a' w' => Held S z e i w w' ∧ anyZ P md ops Q S z e fuel (listed.setIfInBounds i true) a' w') a w
theorem anyZ_any : ∀ (fuel : Nat) (listed : Array Bool) (a : Go.Act) (w : World), anyZ P md ops Q S z e fuel listed a w → wpAny P md ops Q fuel listed a w
  | 0, _, _, _, h => h
  | fuel + 1, _, _, _, h => ⟨h.1, fun i hi => wpOp_mono (fun a' w' k => anyZ_any fuel _ a' w' k.2) (h.2 i hi)⟩
theorem set_of (listed : Array Bool) {j k : Nat} (h : (listed.setIfInBounds j true).getD k true = false) : listed.getD k true = false := by
  by_cases e : j = k
  · subst e
    by_cases hl : j < listed.size
    · simp [hl] at h
    · simp [hl] at h
  · rwa [getD_set_ne true e] at h
/-- while i has not come up nothing that waits for it is ready. -/
theorem ready_wait {i : Nat} {listed : Array Bool} {j : Nat} {oj : Oper} (hr : i ∈ Region.ready md ops listed) (hj : j ∈ Region.ready md ops listed) (hoj : ops[j]? = some oj) : ∀ f ∈ oj.after, Region.binds md f = true → f.on ≠ i := by
  intro f he hb heq
  obtain ⟨_, oj', hoj', hall⟩ := mem_ready.1 hj
  obtain rfl : oj = oj' := Option.some.inj (hoj.symm.trans hoj')
  have h1 := hall f he hb
  have h0 := (mem_ready.1 hr).1
  rw [heq] at h1
  by_cases hl : i < listed.size
  · simp [hl] at h0 h1; rw [h0] at h1; cases h1
  · simp [hl] at h1
/-- number i may be taken first, if all from z on wait for it, or for one from z on. -/
theorem anyZ_first {i : Nat} {oi : Oper} {v : Value} (hi : ops[i]? = some oi) (hsel : ∀ (j : Nat) (o : Oper) cs b, ops[j]? = some o → o.op ≠ .select cs b)
    (hQ : ∀ c a w, Q (.panic c) (a.put oi.dst v) w → Q (.panic c) a w) (hz : ∀ j oz, z ≤ j → j ≠ e → ops[j]? = some oz → ∃ f ∈ oz.after, Region.binds md f = true ∧ (f.on = i ∨ (z ≤ f.on ∧ f.on ≠ e ∧ f.on < ops.size))) :
    ∀ (fuel : Nat) (listed : Array Bool) (a : Go.Act) (w : World),
      (∀ j oj, ops[j]? = some oj → j ≠ i → listed.getD j true = false → (∀ f ∈ oj.after, Region.binds md f = true → f.on ≠ i) → oi.apart ops oj = true) → (∀ j, z ≤ j → j ≠ e → j < ops.size → listed.getD j true = false) →
      i ∈ Region.ready md ops listed → YieldsIf P ops S oi v a → S w →
      anyZ P md ops Q S z e fuel (listed.setIfInBounds i true) (a.put oi.dst v) w → anyZ P md ops Q S z e (fuel + 1) listed a w := by
  intro fuel
  induction fuel with
  | zero =>
    intro listed a w _ _ hr hy hS H
    refine ⟨fun h => (by rw [h] at hr; cases hr), fun j hj => ?_⟩
    by_cases he : j = i
    · subst he; exact hy.wpOp hi hS ⟨⟨fun _ _ => hS, fun _ h => h⟩, H⟩
    · have := ready_mono hj he
      rw [H.1] at this; cases this
  | succ fuel ih =>
    intro listed a w hfree hun' hr hy hS H
    refine ⟨fun h => (by rw [h] at hr; cases hr), fun j hj => ?_⟩
    by_cases he : j = i
    · subst he; exact hy.wpOp hi hS ⟨⟨fun _ _ => hS, fun _ h => h⟩, H⟩
    · obtain ⟨hun, oj, hoj, hall⟩ := mem_ready.1 hj
      have hno := ready_wait hr hj hoj
      have hjz : j < z ∨ j = e := by
        rcases Nat.lt_or_ge j z with h | h
        · exact .inl h
        · by_cases hje : j = e
          · exact .inr hje
          · obtain ⟨f, hf, hfb, hfo⟩ := hz j oj h hje hoj
            rcases hfo with hfo | ⟨h1, h2, h3⟩
            · exact absurd hfo (hno f hf hfb)
            · have e1 := hall f hf hfb
              have e2 := hun' f.on h1 h2 h3
              by_cases hl : f.on < listed.size
              · simp [hl] at e1 e2; rw [e1] at e2; cases e2
              · simp [hl] at e1
      have h2 := wpOp_putIf hoj (hfree j oj hoj he hun hno) (fun cs b => hsel i oi cs b hi) (fun cs b => hsel j oj cs b hoj) hQ hy (H.2 j (ready_mono hj he))
      refine wpOp_mono (fun a' w' h3 => ?_) h2
      have hS' : S w' := by
        by_cases hje : j = e
        · exact h3.2.1.stays hje hS
        · rcases hjz with h | h
          · exact h3.2.1.strict h hje
          · exact absurd h hje
      refine ⟨h3.2.1, ih (listed.setIfInBounds j true) a' w' (fun k ok hk hki hu hn => hfree k ok hk hki (set_of listed hu) hn) (fun k h1 h2 h3 => ?_) (ready_mono hr (Ne.symm he)) h3.1 hS' ?_⟩
      · rw [getD_set_ne true (by rcases hjz with h | h <;> omega)]; exact hun' k h1 h2 h3
      · rw [Array.setIfInBounds_comm _ _ he]
        exact h3.2.2
/-- number e may be taken first, if it is the same in every world. -/
theorem anyZ_pure {oe : Oper} {v : Value} (hi : ops[e]? = some oe) (hsel : ∀ (j : Nat) (o : Oper) cs b, ops[j]? = some o → o.op ≠ .select cs b)
    (hQ : ∀ c a w, Q (.panic c) (a.put oe.dst v) w → Q (.panic c) a w) :
    ∀ (fuel : Nat) (listed : Array Bool) (a : Go.Act) (w : World),
      (∀ j oj, ops[j]? = some oj → j ≠ e → listed.getD j true = false → (∀ f ∈ oj.after, Region.binds md f = true → f.on ≠ e) → oe.apart ops oj = true) →
      e ∈ Region.ready md ops listed → YieldsIf P ops (fun _ => True) oe v a →
      anyZ P md ops Q S z e fuel (listed.setIfInBounds e true) (a.put oe.dst v) w → anyZ P md ops Q S z e (fuel + 1) listed a w := by
  intro fuel
  induction fuel with
  | zero =>
    intro listed a w _ hr hy H
    refine ⟨fun h => (by rw [h] at hr; cases hr), fun j hj => ?_⟩
    by_cases he : j = e
    · subst he; exact hy.wpOp hi trivial ⟨⟨fun _ h => absurd rfl h, fun _ h => h⟩, H⟩
    · have := ready_mono hj he
      rw [H.1] at this; cases this
  | succ fuel ih =>
    intro listed a w hfree hr hy H
    refine ⟨fun h => (by rw [h] at hr; cases hr), fun j hj => ?_⟩
    by_cases he : j = e
    · subst he; exact hy.wpOp hi trivial ⟨⟨fun _ h => absurd rfl h, fun _ h => h⟩, H⟩
    · obtain ⟨hun, oj, hoj, _⟩ := mem_ready.1 hj
      have h2 := wpOp_putIf hoj (hfree j oj hoj he hun (ready_wait hr hj hoj)) (fun cs b => hsel e oe cs b hi) (fun cs b => hsel j oj cs b hoj) hQ hy (H.2 j (ready_mono hj he))
      refine wpOp_mono (fun a' w' h3 => ⟨h3.2.1, ih (listed.setIfInBounds j true) a' w' (fun k ok hk hki hu hn => hfree k ok hk hki (set_of listed hu) hn) (ready_mono hr (Ne.symm he)) h3.1 ?_⟩) h2
      rw [Array.setIfInBounds_comm _ _ he]
      exact h3.2.2
def waits (md : Region.Mode) (ops : Array Oper) (listed : Array Bool) (z e i : Nat) : Bool :=
  (List.range ops.size).all fun j => decide (j < z) || j == e || (!(listed.getD j true) && (ops[j]?.map fun oz => oz.after.any fun f => Region.binds md f && (f.on == i || (decide (z ≤ f.on) && !(f.on == e) && decide (f.on < ops.size)))).getD true)
theorem waits_spec {listed : Array Bool} {i : Nat} (h : waits md ops listed z e i = true) (j : Nat) (oz : Oper) (hj : z ≤ j) (hje : j ≠ e) (ho : ops[j]? = some oz) : ∃ f ∈ oz.after, Region.binds md f = true ∧ (f.on = i ∨ (z ≤ f.on ∧ f.on ≠ e ∧ f.on < ops.size)) := by
  unfold waits at h
  have := List.all_eq_true.1 h j (by simpa using (Array.getElem?_eq_some_iff.1 ho).1)
  rw [decide_eq_false (by omega), ho, show (j == e) = false by simpa using hje] at this
  simp only [Option.map_some, Option.getD_some, Bool.false_or, Bool.and_eq_true, Array.any_eq_true] at this
  obtain ⟨_, k, hk, h⟩ := this
  refine ⟨oz.after[k], Array.getElem_mem hk, h.1, ?_⟩
  have h2 := h.2
  simp only [Bool.or_eq_true, Bool.and_eq_true, decide_eq_true_eq, beq_iff_eq, Bool.not_eq_true', beq_eq_false_iff_ne] at h2
  rcases h2 with h2 | h2
  · exact .inl h2
  · exact .inr ⟨h2.1.1, h2.1.2, h2.2⟩
theorem waits_none {listed : Array Bool} {i : Nat} (h : waits md ops listed z e i = true) (j : Nat) (hj : z ≤ j) (hje : j ≠ e) (hl : j < ops.size) : listed.getD j true = false := by
  unfold waits at h
  have := List.all_eq_true.1 h j (by simpa using hl)
  rw [decide_eq_false (by omega), show (j == e) = false by simpa using hje] at this
  simp only [Bool.false_or, Bool.and_eq_true] at this
  simpa using this.1
theorem take_z (i d : Nat) (v : Value) {oi : Oper} {fuel : Nat} {listed : Array Bool} {a : Go.Act} {w : World} (hi : ops[i]? = some oi) (hd : oi.dst = some d)
    (hs : Region.noSelect ops = true) (hf : Region.free md ops listed i = true) (hr : (Region.ready md ops listed).contains i = true) (hz : waits md ops listed z e i = true)
    (hQ : ∀ c a w, Q (.panic c) (a.put oi.dst v) w → Q (.panic c) a w) (hy : YieldsIf P ops S oi v a) (hS : S w)
    (h : anyZ P md ops Q S z e fuel (listed.setIfInBounds i true) (a.put (some d) v) w) : anyZ P md ops Q S z e (fuel + 1) listed a w :=
  anyZ_first hi (Region.noSelect_spec hs) hQ (waits_spec hz) fuel listed a w (Region.free_spec hi hf) (waits_none hz) (by simpa using hr) hy hS (by rw [hd]; exact h)
theorem take_e (d : Nat) (v : Value) {oi : Oper} {fuel : Nat} {listed : Array Bool} {a : Go.Act} {w : World} (hi : ops[e]? = some oi) (hd : oi.dst = some d)
    (hs : Region.noSelect ops = true) (hf : Region.free md ops listed e = true) (hr : (Region.ready md ops listed).contains e = true)
    (hQ : ∀ c a w, Q (.panic c) (a.put oi.dst v) w → Q (.panic c) a w) (hy : YieldsIf P ops (fun _ => True) oi v a)
    (h : anyZ P md ops Q S z e fuel (listed.setIfInBounds e true) (a.put (some d) v) w) : anyZ P md ops Q S z e (fuel + 1) listed a w :=
  anyZ_pure hi (Region.noSelect_spec hs) hQ fuel listed a w (Region.free_spec hi hf) (by simpa using hr) hy (by rw [hd]; exact h)
def AllZ (P : Program) (md : Region.Mode) (ops : Array Oper) (Q : Exit → Go.Act → World → Prop) (S : World → Prop) (z e fuel : Nat) (listed : Array Bool) (a : Go.Act) (w : World) (rs : List Nat) : Prop :=
  ∀ i ∈ rs, wpOp P ops Q i (fun a' w' => Held S z e i w w' ∧ anyZ P md ops Q S z e fuel (listed.setIfInBounds i true) a' w') a w
theorem AllZ.nil {fuel : Nat} {listed : Array Bool} {a : Go.Act} {w : World} : AllZ P md ops Q S z e fuel listed a w [] := fun _ h => by cases h
theorem AllZ.cons {fuel : Nat} {listed : Array Bool} {a : Go.Act} {w : World} {i : Nat} {o : Oper} {rs : List Nat} (ho : ops[i]? = some o)
    (h : ∀ K' : Go.Act → World → Prop, Shut (∀ a w, S w → (S w → anyZ P md ops Q S z e fuel (listed.setIfInBounds i true) a w) → K' a w) → if Region.wanted o (yielded ops a.tmps) = true then Oper.wp P o a w K' Q else K' (a.put o.dst undef) w)
    (hs : AllZ P md ops Q S z e fuel listed a w rs) : AllZ P md ops Q S z e fuel listed a w (i :: rs) := fun j hj => by
  rcases List.mem_cons.1 hj with rfl | hj
  · exact wpOp_step ho (fun K' hK => h K' (fun a w hS hW => hK a w ⟨⟨fun _ _ => hS, fun _ _ => hS⟩, hW hS⟩))
  · exact hs j hj
/-- one from z on: nothing is asked behind it. -/
theorem AllZ.last {fuel : Nat} {listed : Array Bool} {a : Go.Act} {w : World} {i : Nat} {o : Oper} (hz : (decide (z ≤ i) && !(i == e)) = true) (ho : ops[i]? = some o)
    (h : ∀ K' : Go.Act → World → Prop, Shut (∀ a w, anyZ P md ops Q S z e fuel (listed.setIfInBounds i true) a w → K' a w) → if Region.wanted o (yielded ops a.tmps) = true then Oper.wp P o a w K' Q else K' (a.put o.dst undef) w) :
    AllZ P md ops Q S z e fuel listed a w [i] := fun j hj => by
  simp only [Bool.and_eq_true, decide_eq_true_eq, Bool.not_eq_true', beq_eq_false_iff_ne] at hz
  rcases List.mem_cons.1 hj with rfl | hj
  · exact wpOp_step ho (fun K' hK => h K' (fun a w hW => hK a w ⟨⟨fun h => by omega, fun h => absurd h hz.2⟩, hW⟩))
  · cases hj
theorem anyZ_ready {rs : List Nat} {fuel : Nat} {listed : Array Bool} {a : Go.Act} {w : World} (hr : Region.ready md ops listed = rs) (hne : rs ≠ []) (h : AllZ P md ops Q S z e fuel listed a w rs) : anyZ P md ops Q S z e (fuel + 1) listed a w :=
  ⟨fun h0 => absurd (hr ▸ h0) hne, hr ▸ h⟩
theorem anyZ_done {listed : Array Bool} {a : Go.Act} {w : World} (hr : Region.ready md ops listed = []) (h : Q .normal a w) : ∀ fuel, anyZ P md ops Q S z e fuel listed a w
  | 0 => ⟨hr, h⟩
  | _ + 1 => ⟨fun _ => h, by rw [hr]; simp⟩
theorem region_z {id : Nat} {a : Go.Act} {w : World} (n : Nat) (S : World → Prop) (z e : Nat) (hn : ops.size = n) (hm : P.follows .mixedOrders = true) (hS : S w.drew)
    (h : S w.drew → anyZ P .any ops Q S z e n (Array.replicate n false) a w.drew) : (Code.region id ops true).wp P Q a w := by
  subst hn
  exact wp_region_any hm (anyZ_any _ _ _ _ (h hS))
end
end Go.Proofs.Ytcfdndppkpjleaa.Az
