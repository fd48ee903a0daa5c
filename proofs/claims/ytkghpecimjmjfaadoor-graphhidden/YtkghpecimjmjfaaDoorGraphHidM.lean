/-
  The mathematics of what is hidden till it is committed.
-/
import Derived.Test.YtkghpecimjmjfaaDoorJEm
namespace Go.Proofs.YtkghpecimjmjfaaDoor.En
open Mm Od
theorem read_free {g : Eng} {id x : Int} {i : Nat} (hL : liveAt g id = some i) (hx : St.has g.s x) (ht : g.t i = []) (hw : writer (St.at_ g.s x) = []) : read g id x = (readTo g i x g.p, ((St.at_ g.s x).k, (St.at_ g.s x).n), 0) := by
  unfold read
  rw [hL]
  show (if St.has g.s x then _ else _) = _
  rw [if_pos hx, ht]
  show (if 200 ≤ ([] : List Tx.Sp).length then _ else _) = _
  rw [if_neg (by simp)]
  show (match behind g.p i (writer (St.at_ g.s x)) with | none => _ | some q => _) = _
  rw [hw]; rfl
theorem read_known {g : Eng} {id x : Int} {i : Nat} {s : Tx.Sp} (hL : liveAt g id = some i) (hx : St.has g.s x) (hl : Tx.look (g.t i) x = some s) : read g id x = (g, (s.k, s.n), 0) := by
  unfold read; rw [hL]; show (if St.has g.s x then _ else _) = _; rw [if_pos hx, hl]
theorem look_one (x k n : Int) : Tx.look [⟨x, k, n, false⟩] x = some ⟨x, k, n, false⟩ := by
  unfold Tx.look Tx.wr1 Tx.first
  simp
theorem fresh_at {m : Nat} {x : Int} (h : 0 ≤ x ∧ x < (m : Int)) : St.at_ (List.replicate m St.fresh) x = St.fresh := by
  unfold St.at_
  rw [List.getD_eq_getElem?_getD, List.getElem?_replicate, if_pos (by omega)]; rfl
structure Hidden (a b : Int) (k n : Int) (g1 g2 g3 g4 g5 g6 g7 : Eng) : Prop where
  i0 : Inv 0 (new 4 4)
  i1 : Inv 1 g1
  i2 : Inv 2 g2
  i3 : Inv 3 g3
  i4 : Inv 4 g4
  i5 : Inv 5 g5
  i6 : Inv 6 g6
  i7 : Inv 7 g7
  b1 : begin (new 4 4) = (g1, 1, 0)
  b2 : begin g1 = (g2, 2, 0)
  w3 : write g2 1 a k n = (g3, 0)
  r4 : read g3 2 b = (g4, (1, 0), 0)
  c5 : commit g4 1 = (g5, 0)
  b6 : begin g5 = (g6, 3, 0)
  r7 : read g6 3 a = (g7, (k, n), 0)
  r8 : read g7 2 b = (g7, (1, 0), 0)
structure Hidden0 (a b : Int) (k n : Int) (g1 g2 g4 : Eng) : Prop where
  i0 : Inv 0 (new 4 4)
  i1 : Inv 1 g1
  i2 : Inv 2 g2
  b1 : begin (new 4 4) = (g1, 1, 0)
  b2 : begin g1 = (g2, 2, 0)
  w3 : write g2 1 a k n = (g2, 2)
  r4 : read g2 2 b = (g4, (1, 0), 0)
section
variable {a b k n : Int}
theorem two_ff : Po.ff (begun (new 4 4) 0).p = some 1 := by
  refine Po.ff_some (by decide) ?_ (fun j hj => ?_)
  · unfold Po.freeAt
    rw [show (begun (new 4 4) 0).p.live = 1 from rfl, show (begun (new 4 4) 0).p.done = 0 from rfl, show (begun (new 4 4) 0).p.size = 4 from rfl]
    decide
  · obtain rfl : j = 0 := by omega
    unfold Po.freeAt
    rw [show (begun (new 4 4) 0).p.live = 1 from rfl, show (begun (new 4 4) 0).p.done = 0 from rfl, show (begun (new 4 4) 0).p.size = 4 from rfl]
    decide
theorem two_ids : (begun (begun (new 4 4) 0) 1).p.count = 2 := rfl
theorem hidden_wrong (ha : 0 ≤ a ∧ a < 4) (hb : 0 ≤ b ∧ b < 4) (hr : ¬ Tx.right k n = true) : ∃ g1 g2 g4, Hidden0 a b k n g1 g2 g4 := by
  have i0 : Inv 0 (new 4 4) := new_inv (by decide) (by decide)
  have hf0 : Po.ff (new 4 4).p = some 0 := new_ff (by decide)
  have s0 : (new 4 4).s = List.replicate 4 St.fresh := new_len (by decide)
  have i1 := begun_inv i0 hf0
  have i2 := begun_inv i1 two_ff
  have hx : ∀ x : Int, 0 ≤ x ∧ x < 4 → St.has (begun (begun (new 4 4) 0) 1).s x := fun x h => by
    show St.has (new 4 4).s x
    rw [s0]
    unfold St.has
    simpa using h
  have L2 : liveAt (begun (begun (new 4 4) 0) 1) 2 = some 1 := begun_at i1 two_ff
  have L1 : liveAt (begun (begun (new 4 4) 0) 1) 1 = some 0 := (begun_stays i1 two_ff (begun_at i0 hf0)).1
  have hat : St.at_ (begun (begun (new 4 4) 0) 1).s b = St.fresh := by
    show St.at_ (new 4 4).s b = _
    rw [s0]; exact fresh_at hb
  have := read_free (g := begun (begun (new 4 4) 0) 1) L2 (hx b hb) (begun_t _ _) (by rw [hat]; rfl)
  rw [hat] at this
  exact ⟨_, _, _, i0, i1, i2, begin_at hf0, begin_at two_ff, write_wrong L1 (hx a ha) hr, this⟩
theorem hidden_right (ha : 0 ≤ a ∧ a < 4) (hb : 0 ≤ b ∧ b < 4) (hk : St.i64p k) (hn : St.i64p n) (hr : Tx.right k n = true) : ∃ g1 g2 g3 g4 g5 g6 g7, Hidden a b k n g1 g2 g3 g4 g5 g6 g7 := by
  have i0 : Inv 0 (new 4 4) := new_inv (by decide) (by decide)
  have hf0 : Po.ff (new 4 4).p = some 0 := new_ff (by decide)
  have s0 : (new 4 4).s = List.replicate 4 St.fresh := new_len (by decide)
  have i1 := begun_inv i0 hf0
  have i2 := begun_inv i1 two_ff
  have hx : ∀ x : Int, 0 ≤ x ∧ x < 4 → St.has (begun (begun (new 4 4) 0) 1).s x := fun x h => by
    show St.has (new 4 4).s x
    rw [s0]
    unfold St.has
    simpa using h
  have L2 : liveAt (begun (begun (new 4 4) 0) 1) 2 = some 1 := begun_at i1 two_ff
  have L1 : liveAt (begun (begun (new 4 4) 0) 1) 1 = some 0 := (begun_stays i1 two_ff (begun_at i0 hf0)).1
  have hat : St.at_ (begun (begun (new 4 4) 0) 1).s b = St.fresh := by
    show St.at_ (new 4 4).s b = _
    rw [s0]; exact fresh_at hb
  have t0 : (begun (begun (new 4 4) 0) 1).t 0 = [] := rfl
  have t1 : (begun (begun (new 4 4) 0) 1).t 1 = [] := rfl
  have lf : Leaf (begun (begun (new 4 4) 0) 1).p 0 := by
    intro j he
    have h1 := (Po.begun_inv i1.ps (by decide) (Po.freeAt_tk (Po.ff_spec two_ff).2.1).2).new _ _ he
    rcases h1 with h1 | ⟨h1, _⟩
    · exact begun_leaf i0 hf0 j h1
    · have := (Sm.items_mem.1 h1).2
      have : (0 : Nat).testBit 0 = true := this
      simp at this
  have hlen : (begun (begun (new 4 4) 0) 1).s.length = 4 := by show (new 4 4).s.length = 4; rw [s0]; rfl
  have hc2 : (begun (begun (new 4 4) 0) 1).p.count = 2 := rfl
  have hz2 : (begun (begun (new 4 4) 0) 1).p.size = 4 := rfl
  have w3 := write_one L1 (hx a ha) i2.len t0 hr
  have i3 : Inv 3 (setT (begun (begun (new 4 4) 0) 1) 0 [⟨a, k, n, true⟩]) := by
    have := write_inv i2 (id := 1) (x := a) ⟨by omega, by omega⟩ hk hn
    rw [w3] at this
    exact this.mono (by omega)
  have r4 := read_free (g := setT (begun (begun (new 4 4) 0) 1) 0 [⟨a, k, n, true⟩]) (id := 2) (x := b) L2 (hx b hb) (by show ud (begun (begun (new 4 4) 0) 1).t 0 [⟨a, k, n, true⟩] 1 = _; rw [ud_other (by decide)]; exact t1) (by show writer (St.at_ (begun (begun (new 4 4) 0) 1).s b) = []; rw [hat]; rfl)
  have i4 := read_inv i3 (id := 2) (x := b) ⟨by omega, by omega⟩
  rw [r4] at i4
  have e4 : ((St.at_ (setT (begun (begun (new 4 4) 0) 1) 0 [⟨a, k, n, true⟩]).s b).k, (St.at_ (setT (begun (begun (new 4 4) 0) 1) 0 [⟨a, k, n, true⟩]).s b).n) = ((1 : Int), (0 : Int)) := by
    show ((St.at_ (begun (begun (new 4 4) 0) 1).s b).k, (St.at_ (begun (begun (new 4 4) 0) 1).s b).n) = _
    rw [hat]; rfl
  rw [e4] at r4
  have t40 : (readTo (setT (begun (begun (new 4 4) 0) 1) 0 [⟨a, k, n, true⟩]) 1 b (setT (begun (begun (new 4 4) 0) 1) 0 [⟨a, k, n, true⟩]).p).t 0 = [⟨a, k, n, true⟩] := by
    show ud (ud (begun (begun (new 4 4) 0) 1).t 0 [⟨a, k, n, true⟩]) 1 (ud (begun (begun (new 4 4) 0) 1).t 0 [⟨a, k, n, true⟩] 1 ++ [⟨b, (St.at_ (begun (begun (new 4 4) 0) 1).s b).k, (St.at_ (begun (begun (new 4 4) 0) 1).s b).n, false⟩]) 0 = _
    rw [ud_other (by decide), ud_same]
  have t41 : (readTo (setT (begun (begun (new 4 4) 0) 1) 0 [⟨a, k, n, true⟩]) 1 b (setT (begun (begun (new 4 4) 0) 1) 0 [⟨a, k, n, true⟩]).p).t 1 = [⟨b, 1, 0, false⟩] := by
    show ud (ud (begun (begun (new 4 4) 0) 1).t 0 [⟨a, k, n, true⟩]) 1 (ud (begun (begun (new 4 4) 0) 1).t 0 [⟨a, k, n, true⟩] 1 ++ [⟨b, (St.at_ (begun (begun (new 4 4) 0) 1).s b).k, (St.at_ (begun (begun (new 4 4) 0) 1).s b).n, false⟩]) 1 = _
    rw [ud_same, ud_other (by decide), t1, hat]; rfl
  have L41 : liveAt (readTo (setT (begun (begun (new 4 4) 0) 1) 0 [⟨a, k, n, true⟩]) 1 b (setT (begun (begun (new 4 4) 0) 1) 0 [⟨a, k, n, true⟩]).p) 1 = some 0 := L1
  have L42 : liveAt (readTo (setT (begun (begun (new 4 4) 0) 1) 0 [⟨a, k, n, true⟩]) 1 b (setT (begun (begun (new 4 4) 0) 1) 0 [⟨a, k, n, true⟩]).p) 2 = some 1 := L2
  have lf4 : Leaf (readTo (setT (begun (begun (new 4 4) 0) 1) 0 [⟨a, k, n, true⟩]) 1 b (setT (begun (begun (new 4 4) 0) 1) 0 [⟨a, k, n, true⟩]).p).p 0 := lf
  have hc4 : (readTo (setT (begun (begun (new 4 4) 0) 1) 0 [⟨a, k, n, true⟩]) 1 b (setT (begun (begun (new 4 4) 0) 1) 0 [⟨a, k, n, true⟩]).p).p.count = 2 := hc2
  have hz4 : (readTo (setT (begun (begun (new 4 4) 0) 1) 0 [⟨a, k, n, true⟩]) 1 b (setT (begun (begun (new 4 4) 0) 1) 0 [⟨a, k, n, true⟩]).p).p.size = 4 := hz2
  have hl4 : (readTo (setT (begun (begun (new 4 4) 0) 1) 0 [⟨a, k, n, true⟩]) 1 b (setT (begun (begun (new 4 4) 0) 1) 0 [⟨a, k, n, true⟩]).p).s.length = 4 := by
    show (St.markL (begun (begun (new 4 4) 0) 1).s b ((1 : Nat) : Int)).length = 4
    rw [at_len, hlen]
  have b1 := begin_at hf0
  have b2 := begin_at two_ff
  generalize setT (begun (begun (new 4 4) 0) 1) 0 [⟨a, k, n, true⟩] = g3 at *
  generalize readTo g3 1 b g3.p = g4 at *
  obtain ⟨q, m, c5⟩ := commit_one i4 L41 lf4
  have hi4 := (liveAt_some L41).2.1
  have i5 := commits_inv i4 (by decide) (id := 1)
  rw [c5] at i5
  have hv5 := commit_val i4 hi4 t40 q
  have hql : q.live.testBit 0 = true := by rw [m.live]; exact hi4
  have hcc := closed_count (g := wrote g4 0 q) m.sound hql true
  have hc5 : (closed (wrote g4 0 q) 0 true).p.count = 2 := by rw [hcc.1]; exact m.count.trans hc4
  have hz5 : (closed (wrote g4 0 q) 0 true).p.size = 4 := by rw [hcc.2]; exact m.size.trans hz4
  have L4q : liveAt (wrote g4 0 q) 2 = some 1 := by rw [more_live (g := g4) (g' := wrote g4 0 q) m]; exact L42
  have L52 : liveAt (closed (wrote g4 0 q) 0 true) 2 = some 1 := (closed_live (g := wrote g4 0 q) m.sound hql (c := true) (id := 2) (j := 1)).2 ⟨L4q, by decide⟩
  have t51 : (closed (wrote g4 0 q) 0 true).t 1 = [⟨b, 1, 0, false⟩] := t41
  have hl5 : (closed (wrote g4 0 q) 0 true).s.length = 4 := hv5.2.trans hl4
  generalize closed (wrote g4 0 q) 0 true = g5 at *
  obtain ⟨s, hf5⟩ := ff_room (g := g5) i5.ps (by
    have h1 := i5.log
    rw [rest_len i5.ps, hz5]
    rw [hc5] at h1
    omega)
  have i6 := begun_inv i5 hf5
  obtain ⟨q7, m7, r7⟩ := read_new i5 hf5 (x := a) (by unfold St.has; rw [hl5]; exact ha)
  rw [hc5, hv5.1.1, hv5.1.2] at r7
  have i7 := read_inv i6 (id := 2 + 1) (x := a) ⟨by omega, by omega⟩
  rw [r7] at i7
  have L6 := begun_stays i5 hf5 L52
  have L72 : liveAt (readTo (begun g5 s) s a q7) 2 = some 1 := by
    rw [more_live (g := begun g5 s) m7]; exact L6.1
  have t71 : (readTo (begun g5 s) s a q7).t 1 = [⟨b, 1, 0, false⟩] := by
    show ud (ud g5.t s []) s _ 1 = _
    rw [ud_other L6.2, ud_other L6.2]; exact t51
  have hx7 : St.has (readTo (begun g5 s) s a q7).s b := by
    unfold St.has
    rw [show (readTo (begun g5 s) s a q7).s.length = 4 by show (St.markL g5.s a (s : Nat)).length = 4; rw [at_len, hl5]]
    exact hb
  have r8 := read_known L72 hx7 (by rw [t71]; exact look_one b 1 0)
  refine ⟨_, _, _, _, _, _, _, i0, i1, i2, i3, i4.mono (by omega), i5.mono (by omega), i6.mono (by omega), i7.mono (by omega), b1, b2, w3, r4, c5, ?_, r7, r8⟩
  rw [begin_at hf5, hc5]; rfl
end
end Go.Proofs.YtkghpecimjmjfaaDoor.En
