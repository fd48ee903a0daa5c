/-
  The walk of GraphEmpty.
-/
import Derived.Test.YtfdfiiocccafkaaGreatDoorGraphRun2
namespace Go.Proofs.YtfdfiiocccafkaaGreatDoor.En
open Go.RowKit
attribute [local go_sem ↓] Go.wp_at_zero Go.wp_at_succ
theorem act_size {K : Int} {g : Eng} (h : Inv K g) (a : Act) : (act g a).1.p.size = g.p.size := by
  have hs := h.ps
  refine act_cases (P := fun g' _ _ _ => g'.p.size = g.p.size) ?_ ?_ ?_ ?_ ?_ ?_ ?_ ?_ ?_
  · intro _ _ _; rfl
  · intro _ _ _ _ _ _; rfl
  · intro i hL _; exact (closed_count hs (liveAt_some hL).2.1 false).2
  · intro _ i q _ _ _ _ hb; exact (behind_more hs hb).1.size
  · intro _ _ _ _ _; rfl
  · intro _ i q hL hb
    have m := (behind_more hs hb).1
    exact (closed_count (g := wrote g i q) m.sound (by show q.live.testBit i = true; rw [m.live]; exact (liveAt_some hL).2.1) true).2.trans m.size
  · intro _ i hL; exact (closed_count hs (liveAt_some hL).2.1 false).2
  · intro _ _ _; rfl
  · intro _ _ _; rfl
/-- what holds of an engine that acts went over. -/
structure RunIs (n : Int) (k : Nat) (g : Eng) : Prop where
  inv : Inv (k : Nat) g
  nx : Nx g
  size : g.p.size = n
  leg : Leg g
theorem runE_is {n v : Int} {l : Nat → Act} {N : Nat} (hn : 1 ≤ n ∧ n ≤ 32) (hv : 0 ≤ v ∧ v ≤ 64) (hN : N ≤ 100000) (hok : ∀ i, i < N → (l i).ok) : ∀ k, k ≤ N → RunIs n k (runE n v l k)
  | 0, _ => ⟨new_inv hn hv, new_nx n v, rfl, new_leg hv⟩
  | k + 1, hk => by
    have h := runE_is hn hv hN hok k (by omega)
    exact ⟨by have := act_inv h.inv (by omega) (hok k (by omega)); exact this.mono (by omega), act_nx h.inv h.nx (l k), (act_size h.inv (l k)).trans h.size, act_leg h.inv (by omega) h.leg⟩
theorem begin_nx {K : Int} {g : Eng} (h : Inv K g) (hn : Nx g) : Nx (begin g).1 := by
  have := act_nx h hn ⟨0, 0, 0, 0, 0⟩
  rwa [act_begin (by decide)] at this
theorem abort_nx {K : Int} {g : Eng} (h : Inv K g) (hn : Nx g) (id : Int) : Nx (abort g id).1 := by
  have := act_nx h hn ⟨10, id, 0, 0, 0⟩
  rwa [act_abort rfl] at this
theorem Live.less {w0 w : World} {P Q : Nat → Prop} {b N : Nat} {K : Int} {g : Eng} (h : Live w0 P b N K g w) (hQ : ∀ k, Q k → P k) : Live w0 Q b N K g w := by
  obtain ⟨F, hE, hF⟩ := h.ex
  exact ⟨⟨F, hE, fun k hk => ⟨(hF k hk).1, fun hq => (hF k hk).2 (hQ k hq)⟩⟩, h.bel, fun k hk => h.pl k (hQ k hk), h.inv⟩
/-- while all begin. -/
def EmRel (w : World) (b N : Nat) (n : Int) (m : Nat) (D : Int) (i : Value) (wr : World) : Prop :=
  ∃ (k : Nat) (g : Eng), (k : Int) ≤ D ∧ i = .int .i64 k ∧ Live w (fun _ => False) b (N + k) ((N + k : Nat) : Int) g wr ∧ Nx g ∧ g.p.size = n ∧ (rest g).length = m + k
/-- while all are aborted. -/
def AbRel (w w2 : World) (b N : Nat) (K : Int) (v : Value) (L : List Ent) (i : Value) (wr : World) : Prop :=
  ∃ (k : Nat) (g : Eng), k ≤ L.length ∧ i = .int .i64 k ∧ Live w (fun q => v.ownBlock = some q) b N K g wr ∧ Nx g ∧ AbI g (L.drop k) ∧ Same (fun q => v.ownBlock = some q) w2 wr
/-- one of the entries told, in a world that kept the row. -/
theorem xs_cell {w w' : World} {base : Nat} {v : Value} {X : List Xe} (h : OwnX w base v X) (hs : Same (fun q => v.ownBlock = some q) w w') {j : Nat} {x : Xe} (hx : X[j]? = some x) : ∃ q c, v = .slice (some ⟨q, 0, none⟩) X.length c ∧ w'.cell? ⟨q, j * 5, none⟩ = some (.int .i64 x.1.id) ∧ w'.cell? ⟨q, j * 5 + 1, none⟩ = some (.bool x.1.com) ∧ w'.cell? ⟨q, j * 5 + 2, none⟩ = some (.bool x.1.ovr) ∧ w'.cell? ⟨q, j * 5 + 3, none⟩ = some x.2.1 ∧ w'.cell? ⟨q, j * 5 + 4, none⟩ = some x.2.2 := by
  obtain ⟨A, c, rfl, _, _⟩ := h.slice
  obtain ⟨q, rfl, _, _⟩ := h.some_ (by have := (List.getElem?_eq_some_iff.1 hx).1; omega)
  have k : ∀ i, i < 5 → ∀ u, (entC x)[i]? = some u → w'.cell? ⟨q, j * 5 + i, none⟩ = some u := fun i hi u hu => hs.cell ((h.get hx i hi).trans hu) rfl
  exact ⟨q, c, rfl, k 0 (by decide) _ rfl, k 1 (by decide) _ rfl, k 2 (by decide) _ rfl, k 3 (by decide) _ rfl, k 4 (by decide) _ rfl⟩
end Go.Proofs.YtfdfiiocccafkaaGreatDoor.En
