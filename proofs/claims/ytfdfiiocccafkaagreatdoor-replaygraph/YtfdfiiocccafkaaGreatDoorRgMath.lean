/-
  Engines' logs and rests as rows that are replayed: mathematics, and how they lie.
-/
import Derived.Test.YtfdfiiocccafkaaGreatDoorGraphLegal
import Derived.Test.YtfdfiiocccafkaaGreatDoorRepBase
namespace Go.Proofs.YtfdfiiocccafkaaGreatDoor.Rg
open Go.RowKit En
def cv (e : En.Ent) : Rp.Ent := ⟨e.id, e.com, e.ovr, e.rd, e.wr⟩
theorem next_sets {n : Nat} {e : En.Ent} (h : EntOk n e) (now : Now) : Rp.next now (cv e) = sets now e.wr := by
  unfold Rp.next cv
  dsimp only
  cases hc : e.com with
  | true => rfl
  | false =>
    have hw : e.wr = [] := by
      cases hw : e.wr with
      | nil => rfl
      | cons s l => have := (h.wr s (by rw [hw]; simp)).2.2; rw [hc] at this; cases this
    rw [hw]; rfl
theorem fits_cv {n : Nat} {e : En.Ent} (h : EntOk n e) {now : Now} (hn : now.length = n) (hf : En.fits now e) : Rp.fits now (cv e) = true := by
  have hl : ∀ s ∈ e.wr, Rp.lacks now s = false := fun s hs => by
    have hb := (h.wr s hs).1
    have : Rp.has now s.x = true := (Rp.has_iff _ _).2 ⟨hb.1, by rw [hn]; exact hb.2⟩
    unfold Rp.lacks; rw [this]; rfl
  have hd : ∀ s ∈ e.rd, Rp.denies now s = false := fun s hs => by
    have hb := (h.rd s hs).1
    have h1 : Rp.has now s.x = true := (Rp.has_iff _ _).2 ⟨hb.1, by rw [hn]; exact hb.2⟩
    have h2 : Rp.at_ now s.x = some (s.k, s.n) := by unfold Rp.at_; rw [if_pos hb.1]; exact hf s hs
    unfold Rp.denies Rp.lacks; rw [h1, h2]; simp
  have e1 : e.rd.any (Rp.denies now) = false := by rw [List.any_eq_false]; intro s hs; simp [hd s hs]
  have e2 : e.wr.any (Rp.lacks now) = false := by rw [List.any_eq_false]; intro s hs; simp [hl s hs]
  unfold Rp.fits cv
  dsimp only
  rw [e1, e2]; rfl
theorem rep_all {n : Nat} : ∀ (l : List En.Ent) (now out : Now), Rep now l out → (∀ e ∈ l, EntOk n e) → now.length = n → Rp.allI now (l.map cv) = none ∧ Rp.allS now (l.map cv) = out
  | [], now, out, h, _, _ => ⟨rfl, h⟩
  | e :: l, now, out, h, hok, hn => by
    have h1 := hok e (by simp)
    have hf := fits_cv h1 hn h.1
    have hl : (sets now e.wr).length = n := by rw [sets_len, hn]
    obtain ⟨i1, i2⟩ := rep_all l _ out h.2 (fun u hu => hok u (by simp [hu])) hl
    rw [List.map_cons]
    refine ⟨?_, ?_⟩
    · show (if Rp.fits now (cv e) then (Rp.allI (Rp.next now (cv e)) (l.map cv)).map (· + 1) else some 0) = none
      rw [if_pos hf, next_sets h1, i1]; rfl
    · show (if Rp.fits now (cv e) then Rp.allS (Rp.next now (cv e)) (l.map cv) else now) = out
      rw [if_pos hf, next_sets h1, i2]
theorem closed_len (g : Eng) (i : Nat) (c : Bool) : (closed g i c).s.length = g.s.length := drops_len _ g.s
theorem act_vars {K : Int} {g : Eng} (_h : Inv K g) (a : En.Act) : (act g a).1.s.length = g.s.length := by
  refine act_cases (P := fun g' _ _ _ => g'.s.length = g.s.length) ?_ ?_ ?_ ?_ ?_ ?_ ?_ ?_ ?_
  · intro _ _ _; rfl
  · intro _ _ _ _ _ _; rfl
  · intro i hL _; exact closed_len _ _ _
  · intro _ i q _ _ _ _ hb
    show (St.markL g.s a.x (i : Nat)).length = _
    unfold St.markL; (repeat' split) <;> simp
  · intro _ _ _ _ _; rfl
  · intro _ i q hL hb; exact (closed_len _ _ _).trans (puts_len _ _ _ _)
  · intro _ i hL; exact closed_len _ _ _
  · intro _ _ _; rfl
  · intro _ _ _; rfl
theorem runE_vars {n : Int} {v : Nat} {l : Nat → En.Act} {N : Nat} (hn : 1 ≤ n ∧ n ≤ 32) (hv : v ≤ 64) (hN : N ≤ 100000) (hok : ∀ i, i < N → (l i).ok) : ∀ k, k ≤ N → (runE n (v : Nat) l k).s.length = v
  | 0, _ => by
            show (St.newL (v : Nat)).length = v
            have h1 : St.newIs ((v : Nat) : Int) = true := by (unfold St.newIs; simp <;> omega)
            unfold St.newL; rw [if_pos h1]; simp
  | k + 1, hk => by
    have h := runE_is (v := (v : Nat)) hn ⟨by omega, by omega⟩ hN hok k (by omega)
    exact (act_vars h.inv (l k)).trans (runE_vars hn hv hN hok k (by omega))
/-- rows of entries as the replay's. -/
theorem cv_rows {F : Nat → Prop} {w : World} : ∀ (X : List Xe), (∀ x ∈ X, EntAt F w x) → ∃ Y : List Rp.Xc, Rn.flat Rp.encX Y = flatE X ∧ Y.map (·.e) = (X.map (·.1)).map cv ∧ ∀ y ∈ Y, Rp.RdX w y
  | [], _ => ⟨[], rfl, rfl, by simp⟩
  | x :: X, h => by
    obtain ⟨Y, h1, h2, h3⟩ := cv_rows X (fun u hu => h u (by simp [hu]))
    obtain ⟨⟨A, c, e3, s3⟩, ⟨B, d, e4, s4⟩⟩ := h x (by simp)
    refine ⟨⟨cv x.1, A, c, B, d⟩ :: Y, ?_, by rw [List.map_cons, h2]; rfl, fun y hy => ?_⟩
    · rw [Rn.flat_cons, h1]
      show _ = entC x ++ flatE X
      unfold entC
      rw [e3, e4]; rfl
    · rcases List.mem_cons.1 hy with rfl | hy
      · exact ⟨s3.sl, s4.sl⟩
      · exact h3 y hy
theorem xs_it {F : Nat → Prop} {w : World} {A : Option Addr} {X : List Xe} {L : List En.Ent} (h : XsAt w A X) (he : ∀ x ∈ X, EntAt F w x) (hm : X.map (·.1) = L) : ∃ Y, Rp.ItAt w A Y (L.map cv) := by
  obtain ⟨Y, h1, h2, h3⟩ := cv_rows X he
  have hl : Y.length = X.length := by have := congrArg List.length h2; simpa using this
  refine ⟨Y, ⟨fun h0 => ?_⟩, by rw [h2, hm], h3⟩
  obtain ⟨ad, e, hc⟩ := h.cell (by omega)
  exact ⟨ad, e, fun j u hu => hc j u (by rw [← h1]; exact hu)⟩
theorem vals_at {w : World} {base q n : Nat} {L : List (Int × Int)} (h : Sx.ValsAt w base q n L) : Rn.At Rp.encV w (some ⟨q, 0, none⟩) L := ⟨fun _ => ⟨_, rfl, World.ownsRow.cells h.row rfl⟩⟩
theorem told_append {W w7 : World} {b5 b6 : Nat} {v5 v6 : Value} {X5 X6 : List Xe} (he5 : ∀ x ∈ X5, EntAt (fun k => v5.ownBlock = some k ∨ k < b5) W x) (he6 : ∀ x ∈ X6, EntAt (fun k => v6.ownBlock = some k ∨ k < b6) W x)
    (hb6 : ∀ q, v5.ownBlock = some q → q < b6) (hg7 : W.grownBy w7 v5.ownBlock) : ∀ x ∈ X5 ++ X6, EntAt (fun _ => False) w7 x := by
  have hk7 : Kp (fun q => v5.ownBlock = some q) W w7 := (Kp.refl _ W).grown hg7 (fun q e => .inl e)
  intro x hx
  rcases List.mem_append.1 hx with hx | hx
  · exact ((he5 x hx).kp ⟨hk7.os, hk7.tape, hk7.output, hk7.size, fun q hq hn => hk7.block q hq (fun e => hn (.inl e))⟩).foot (fun q _ e => e.elim)
  · exact ((he6 x hx).kp ⟨hk7.os, hk7.tape, hk7.output, hk7.size, fun q hq hn => hk7.block q hq (fun e => hn (.inr (hb6 q e)))⟩).foot (fun q _ e => e.elim)
theorem few_cv {n : Nat} {L : List En.Ent} (h : ∀ e ∈ L, EntOk n e) : Rp.few (L.map cv) := fun e he => by
  obtain ⟨u, hu, rfl⟩ := List.mem_map.1 he
  have h1 := (h u hu).rl
  have h2 := (h u hu).wl
  exact ⟨by show u.rd.length ≤ 300; omega, by show u.wr.length ≤ 300; omega⟩
end Go.Proofs.YtfdfiiocccafkaaGreatDoor.Rg
