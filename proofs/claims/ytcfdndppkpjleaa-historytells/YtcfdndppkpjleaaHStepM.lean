/-
  The steps of an entry off a map of events' numbers, in whatever order the map was gone through.
-/
import Derived.Test.YtcfdndppkpjleaaHMath
namespace Go.Proofs.Ytcfdndppkpjleaa.Hi
open Tx (i64p right Sp rise)
/-- the step that the event of that number is. -/
def stOf (L : List Ev) (x : Int) (k : Nat) : Sp := match L[k]? with
  | some e => ⟨x, e.k, e.n, decide (e.kd = 2)⟩
  | none => Tx.zero
/-- those that are no longer to come. -/
def gl (L : List Ev) (f : Int → Option Nat) (left : Int → Bool) (x : Int) : Option Sp := if left x = true then none else (f x).map (stOf L x)
def stepsF (L : List Ev) (f : Int → Option Nat) : List Sp := rise (fun x => (f x).map (stOf L x)) 64
/-- what a map of a course says. -/
def FitL (L : List Ev) (f : Int → Option Nat) : Prop := ∀ x k, f x = some k → 0 ≤ x ∧ x < 64 ∧ k < L.length
theorem stOf_x {L : List Ev} {k : Nat} (h : k < L.length) (x : Int) : (stOf L x k).x = x := by
  unfold stOf; rw [List.getElem?_eq_getElem h]
theorem perm_sorted {α : Type} {le : α → α → Prop} : ∀ {l k : List α}, l.Perm k → l.Pairwise le → k.Pairwise le → (∀ a ∈ l, ∀ b ∈ l, le a b → le b a → a = b) → l = k
  | [], k, h, _, _, _ => (List.nil_perm.1 h).symm ▸ rfl
  | a :: l, k, h, h1, h2, ha => by
    rcases k with _ | ⟨b, k⟩
    · exact absurd h.symm (by simp)
    · rw [List.pairwise_cons] at h1 h2
      have hb : b ∈ a :: l := h.mem_iff.2 (by simp)
      have ha' : a ∈ b :: k := h.mem_iff.1 (by simp)
      have e : a = b := by
        rcases List.mem_cons.1 hb with e | hb'
        · exact e.symm
        · rcases List.mem_cons.1 ha' with e | ha''
          · exact e
          · exact ha a (by simp) b hb (h1.1 b hb') (h2.1 a ha'')
      subst e
      rw [perm_sorted (List.Perm.cons_inv h) h1.2 h2.2 (fun x hx y hy => ha x (by simp [hx]) y (by simp [hy]))]
theorem mem_rise_iff {f : Int → Option Sp} {k : Nat} {s : Sp} : s ∈ rise f k ↔ ∃ x : Nat, x < k ∧ f (x : Nat) = some s := by
  unfold rise
  rw [List.mem_filterMap]
  exact ⟨fun ⟨x, hx, h⟩ => ⟨x, List.mem_range.1 hx, h⟩, fun ⟨x, hx, h⟩ => ⟨x, List.mem_range.2 hx, h⟩⟩
/-- a row by rising variables. -/
theorem rise_lt {f : Int → Option Sp} (hf : ∀ x s, f x = some s → s.x = x) (k : Nat) : (rise f k).Pairwise fun a b => a.x < b.x := by
  induction k with
  | zero => simp [rise]
  | succ k ih =>
    cases h : f ((k : Nat) : Int) with
    | none => rw [Tx.rise_succ_none h]; exact ih
    | some s =>
      rw [Tx.rise_succ_some h, List.pairwise_append]
      refine ⟨ih, by simp, fun a ha b hb => ?_⟩
      rw [List.mem_singleton] at hb
      subst hb
      obtain ⟨x, hx, hfx⟩ := mem_rise_iff.1 ha
      rw [hf _ _ hfx, hf _ _ h]
      omega
theorem gl_x {L : List Ev} {f : Int → Option Nat} (hf : FitL L f) (left : Int → Bool) (x : Int) (s : Sp) (h : gl L f left x = some s) : s.x = x := by
  unfold gl at h
  split at h
  · cases h
  · rw [Option.map_eq_some_iff] at h
    obtain ⟨k, hk, rfl⟩ := h
    exact stOf_x (hf x k hk).2.2 x
theorem rise_nodup {f : Int → Option Sp} (hf : ∀ x s, f x = some s → s.x = x) (k : Nat) : (rise f k).Nodup := by
  refine (rise_lt hf k).imp fun {a b} h e => ?_
  subst e; omega
/-- one more has come. -/
theorem gl_step {L : List Ev} {f : Int → Option Nat} {left : Int → Bool} {S : List Sp} {x : Int} {k : Nat} (hf : FitL L f) (h : S.Perm (rise (gl L f left) 64)) (hl : left x = true) (hk : f x = some k) :
    (S ++ [stOf L x k]).Perm (rise (gl L f (fun z => left z && !decide (z = x))) 64) := by
  have hx := hf x k hk
  have n1 := rise_nodup (gl_x hf left) 64
  have n2 := rise_nodup (gl_x hf (fun z => left z && !decide (z = x))) 64
  have hnot : stOf L x k ∉ S := fun hm => by
    obtain ⟨y, _, hy⟩ := mem_rise_iff.1 (h.mem_iff.1 hm)
    have e1 := gl_x hf left _ _ hy
    rw [stOf_x hx.2.2] at e1
    unfold gl at hy
    rw [← e1, if_pos hl] at hy
    cases hy
  refine (List.perm_ext_iff_of_nodup ?_ n2).2 fun s => ?_
  · rw [List.nodup_append]
    exact ⟨h.symm.nodup n1, by simp, fun a ha b hb e => hnot (by rw [List.mem_singleton] at hb; subst hb; subst e; exact ha)⟩
  · rw [List.mem_append, List.mem_singleton, h.mem_iff, mem_rise_iff, mem_rise_iff]
    constructor
    · rintro (⟨y, hy, hg⟩ | rfl)
      · refine ⟨y, hy, ?_⟩
        unfold gl at hg ⊢
        by_cases hly : left (y : Int) = true
        · rw [if_pos hly] at hg; cases hg
        · rw [if_neg hly] at hg
          rw [if_neg (by simp [hly]), hg]
      · obtain ⟨y, rfl⟩ := Int.eq_ofNat_of_zero_le hx.1
        refine ⟨y, by omega, ?_⟩
        unfold gl
        rw [if_neg (by simp), hk]; rfl
    · rintro ⟨y, hy, hg⟩
      by_cases e : (y : Int) = x
      · subst e
        unfold gl at hg
        rw [if_neg (by simp), hk] at hg
        exact .inr (Option.some.inj hg).symm
      · refine .inl ⟨y, hy, ?_⟩
        unfold gl at hg ⊢
        by_cases hly : left (y : Int) = true
        · rw [if_pos (by simp [hly, e])] at hg; cases hg
        · rw [if_neg (by simp [hly])] at hg
          rw [if_neg hly, hg]
theorem gl_first (L : List Ev) (f : Int → Option Nat) : rise (gl L f (fun x => (f x).isSome)) 64 = [] := by
  have : ∀ x, gl L f (fun x => (f x).isSome) x = none := fun x => by
    unfold gl
    cases h : f x <;> simp [h]
  apply List.eq_nil_of_length_eq_zero
  rcases hr : rise (gl L f (fun x => (f x).isSome)) 64 with _ | ⟨s, l⟩
  · rfl
  · obtain ⟨x, _, hx⟩ := mem_rise_iff.1 (show s ∈ rise (gl L f (fun x => (f x).isSome)) 64 by rw [hr]; simp)
    rw [this] at hx; cases hx
theorem gl_last {L : List Ev} {f : Int → Option Nat} {left : Int → Bool} (h : ∀ x, left x = false) : rise (gl L f left) 64 = stepsF L f :=
  Tx.rise_congr fun x _ => by unfold gl; rw [h]; rfl
theorem steps_x {L : List Ev} {f : Int → Option Nat} (hf : FitL L f) (x : Int) (s : Sp) (h : (f x).map (stOf L x) = some s) : s.x = x := by
  rw [Option.map_eq_some_iff] at h
  obtain ⟨k, hk, rfl⟩ := h
  exact stOf_x (hf x k hk).2.2 x
theorem sorted_steps {L : List Ev} {f : Int → Option Nat} {M S : List Sp} (hf : FitL L f) (hS : S.Perm (stepsF L f)) (hM : M.Perm S) (ho : M.Pairwise fun a b => a.x ≤ b.x) : M = stepsF L f := by
  have hp := hM.trans hS
  have hr := rise_lt (steps_x hf) 64
  refine perm_sorted hp ho (hr.imp fun h => by omega) fun a ha b hb hab hba => ?_
  obtain ⟨x, _, hx⟩ := mem_rise_iff.1 (hp.mem_iff.1 ha)
  obtain ⟨y, _, hy⟩ := mem_rise_iff.1 (hp.mem_iff.1 hb)
  have e1 := steps_x hf _ _ hx
  have e2 := steps_x hf _ _ hy
  have e : (x : Int) = (y : Int) := by omega
  rw [e] at hx
  exact Option.some.inj (hx.symm.trans hy)
theorem steps_ok {L : List Ev} {f : Int → Option Nat} (hf : FitL L f) (hok : ∀ e ∈ L, e.ok) {x : Int} {k : Nat} (h : f x = some k) : (stOf L x k).ok := by
  have hx := hf x k h
  have ho := hok _ (List.getElem_mem hx.2.2)
  unfold stOf
  rw [List.getElem?_eq_getElem hx.2.2]
  exact ⟨⟨by show (-9223372036854775808 : Int) ≤ x; omega, by show x ≤ 9223372036854775807; omega⟩, ho.2.2.2.1, ho.2.2.2.2⟩
end Go.Proofs.Ytcfdndppkpjleaa.Hi
