/-
  The walk of GraphTime: its two maps, and the loop over all acts.
-/
import Derived.Test.YtkghpecimjmjfaaGreatDoorGraphTime
namespace Go.Proofs.YtkghpecimjmjfaaGreatDoor.En
open Go.RowKit
attribute [local go_sem ↓] Go.wp_at_zero Go.wp_at_succ
theorem TMap.mono {W : World} {b n m sz : Nat} {f : Int → Nat} (h : TMap W b n sz f) (hm : n ≤ m) : TMap W b m sz f := by
  obtain ⟨D, ho, hr⟩ := h
  exact ⟨D, ho.mono hm, hr⟩
/-- who began behind an act. -/
theorem act_begins {K : Int} {g : Eng} (h : Inv K g) (a : Act) : (0 < (act g a).2.2.1 ∧ (act g a).2.2.2 = 0 → (act g a).2.2.1 = g.p.count + 1 ∧ (act g a).1.p.count = g.p.count + 1) ∧ (¬ (0 < (act g a).2.2.1 ∧ (act g a).2.2.2 = 0) → (act g a).1.p.count = g.p.count) := by
  have hs := h.ps
  have hc := hs.count
  refine act_cases (P := fun g' _ id e => (0 < id ∧ e = 0 → id = g.p.count + 1 ∧ g'.p.count = g.p.count + 1) ∧ (¬ (0 < id ∧ e = 0) → g'.p.count = g.p.count)) ?_ ?_ ?_ ?_ ?_ ?_ ?_ ?_ ?_
  · intro _ _ _; exact ⟨fun h => absurd h.1 (by decide), fun _ => rfl⟩
  · intro _ _ _ _ _ _; exact ⟨fun h => absurd h.1 (by decide), fun _ => rfl⟩
  · intro i hL _; exact ⟨fun h => absurd h.1 (by decide), fun _ => (closed_count hs (liveAt_some hL).2.1 false).1⟩
  · intro _ i q _ _ _ _ hb; exact ⟨fun h => absurd h.1 (by decide), fun _ => (behind_more hs hb).1.count⟩
  · intro _ _ _ _ _; exact ⟨fun h => absurd h.1 (by decide), fun _ => rfl⟩
  · intro _ i q hL hb
    have m := (behind_more hs hb).1
    exact ⟨fun h => absurd h.1 (by decide), fun _ => (closed_count (g := wrote g i q) m.sound (by show q.live.testBit i = true; rw [m.live]; exact (liveAt_some hL).2.1) true).1.trans m.count⟩
  · intro _ i hL; exact ⟨fun h => absurd h.1 (by decide), fun _ => (closed_count hs (liveAt_some hL).2.1 false).1⟩
  · intro _ _ _; exact ⟨fun h => absurd h.1 (by decide), fun _ => rfl⟩
  · intro _ s hf; exact ⟨fun _ => ⟨rfl, rfl⟩, fun h => absurd ⟨by omega, rfl⟩ h⟩
def PM (m1 m2 : Nat) (q : Nat) : Prop := q = m1 ∨ q = m2
def TiRel (w : World) (n v : Int) (l : Nat → Act) (N b m1 m2 : Nat) (i : Value) (wr : World) : Prop :=
  ∃ (k : Nat) (bg en : Int → Nat) (sz : Nat), k ≤ N ∧ i = .int .i64 k ∧ Live w (PM m1 m2) b k (k : Nat) (runE n v l k) wr ∧ Tm k (runE n v l k) bg en ∧ TMap wr m1 (cnt en 200) sz en ∧ TMap wr m2 k (runE n v l k).p.count.toNat bg
/-- the entries that are told, one behind the other, in a row of the call's own. -/
structure All (W0 : World) (base : Nat) (v : Value) (X : List Xe) (g : Eng) : Prop where
  own : OwnX W0 base v X
  ent : ∀ x ∈ X, EntAt (fun k => k < base) W0 x
  map : X.map (·.1) = g.log ++ rest g
theorem All.len {W0 : World} {base : Nat} {v : Value} {X : List Xe} {g : Eng} {K : Int} (h : All W0 base v X g) (hi : Inv K g) : (X.length : Int) = g.p.count := by
  have h1 := hi.log
  have h3 := rest_len hi.ps
  have h4 := congrArg List.length h.map
  rw [List.length_map, List.length_append] at h4
  omega
/-- the numbers of those that are told. -/
theorem all_ids {g : Eng} {K : Int} (hi : Inv K g) {x : Ent} (hx : x ∈ g.log ++ rest g) : 1 ≤ x.id ∧ x.id ≤ g.p.count := by
  rcases List.mem_append.1 hx with h | h
  · have := hi.ent x h; exact this.2.2
  · obtain ⟨i, hi2, rfl⟩ := List.mem_map.1 h
    have ht := ((slots_lin hi.ps).mem i).1 hi2
    exact ⟨hi.ps.pos i ht, (hi.ps.ids i (hi.ps.tk32 ht)).2⟩
theorem all_of {w5 w6 w7 : World} {base : Nat} {v5 v7 : Value} {X5 X6 : List Xe} {g : Eng} {F : Nat → Prop} (ho : OwnX w5 base v5 X5) (hX5 : X5.map (·.1) = g.log) (he5 : ∀ x ∈ X5, EntAt (fun k => v5.ownBlock = some k ∨ k < base) w5 x) (hb6 : Below w5.heap.size w5 w6) (hX6 : X6.map (·.1) = rest g) (he6 : ∀ x ∈ X6, EntAt (fun k => F k ∨ k < w5.heap.size) w6 x) (hbs : base ≤ w5.heap.size)
    (ho7 : OwnX w7 base v7 (X5 ++ X6)) (hg7 : w6.grownBy w7 v5.ownBlock) : All w7 base v7 (X5 ++ X6) g := by
  have hk7 : Kp (fun q => v5.ownBlock = some q) w6 w7 := (Kp.refl _ w6).grown hg7 (fun q e => .inl e)
  refine ⟨ho7, fun x hx => ?_, by rw [List.map_append, hX5, hX6]⟩
  rcases List.mem_append.1 hx with hx | hx
  · have h1 := (he5 x hx).kp (Kp.of_below hb6)
    exact (h1.kp ⟨hk7.os, hk7.tape, hk7.output, hk7.size, fun q hq hn => hk7.block q hq (fun e => hn (.inl e))⟩).foot (fun q _ e => .inr e)
  · have h1 := he6 x hx
    exact (h1.kp ⟨hk7.os, hk7.tape, hk7.output, hk7.size, fun q hq hn => hk7.block q hq (fun e => hn (.inr (World.ownsRow.lt ho q e).2))⟩).foot (fun q _ e => .inr (by omega))
theorem all_cell {W0 wr : World} {base m : Nat} {v : Value} {X : List Xe} {g : Eng} (h : All W0 base v X g) (hm : m < base) (hk : Kp (fun q => q = m) W0 wr) {j : Nat} {x : Xe} (hx : X[j]? = some x) : ∃ q c, v = .slice (some ⟨q, 0, none⟩) X.length c ∧ wr.cell? ⟨q, j * 5, none⟩ = some (.int .i64 x.1.id) ∧ wr.cell? ⟨q, j * 5 + 1, none⟩ = some (.bool x.1.com) ∧ wr.cell? ⟨q, j * 5 + 2, none⟩ = some (.bool x.1.ovr) ∧ wr.cell? ⟨q, j * 5 + 3, none⟩ = some x.2.1 ∧ wr.cell? ⟨q, j * 5 + 4, none⟩ = some x.2.2 :=
  xs_cell h.own ⟨hk.size, fun k e => hk.block k (World.ownsRow.lt h.own k e).2 (fun e2 => by have := (World.ownsRow.lt h.own k e).1; omega)⟩ hx
end Go.Proofs.YtkghpecimjmjfaaGreatDoor.En
