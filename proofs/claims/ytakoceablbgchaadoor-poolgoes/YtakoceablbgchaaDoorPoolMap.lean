/-
  Maps of whole numbers that a call has made, as functions; the mathematics of PoolGoes.
-/
import Derived.Test.YtakoceablbgchaaDoorPoolTwo
import Derived.Maps.OwnOps
import Derived.Maps.Views
namespace Go.Proofs.YtakoceablbgchaaDoor
open Go.RowKit
open Go.Maps (Keyed int_keyed keyOf_int_mk)
/-- the block b is a map of at most n entries; what it has at z is f z. -/
def MapIs (W : World) (b n : Nat) (f : Int → Int) : Prop :=
  ∃ D : DataW Unit, W.ownsMap Tryd.prog 3 (plainElem Tryd.prog 3) b n D ∧ (∃ es, D = .map es) ∧ ∀ z, D.atKey (.int .i64 z) (.lit (.int .i64 0)) = .lit (.int .i64 (f z))
theorem wf_i64 {z : Int} (h : i64p z) : (Lit.int .i64 z).wf = true := by
  obtain ⟨h0, h1⟩ := h
  have e0 : IntKind.i64.min = -9223372036854775808 := by decide
  have e1 : IntKind.i64.max = 9223372036854775807 := by decide
  simp only [Lit.wf, e0, e1, Bool.and_eq_true, decide_eq_true_eq]
  exact ⟨h0, h1⟩
set_option maxRecDepth 100000 in
theorem zero_int (w : World) : (zeroValue 3).run Tryd.prog w = .ok (.int .i64 0) w := by
  have h : (Tryd.prog.info? 3).map (fun i => (i.zero, i.size)) = some (some (.int .i64 0), 1) := by kernel_rfl
  exact (zero_of_info h).1 w
theorem MapIs.lt {W : World} {b n : Nat} {f : Int → Int} (h : MapIs W b n f) : b < W.heap.size := by
  obtain ⟨D, ho, _⟩ := h
  exact ho.lt
theorem mapIs_made (W : World) : MapIs (W.alloc (.map #[] 0)) W.heap.size 0 (fun _ => 0) :=
  ⟨.map [], World.ownsMap_made W _ _ _, ⟨[], rfl⟩, fun _ => rfl⟩
set_option maxRecDepth 100000 in
theorem MapIs.look {W : World} {b n : Nat} {f : Int → Int} (h : MapIs W b n f) {z : Int} (hz : i64p z) : (Instr.lookup 62 (.map (some b)) (.int .i64 z) false).run Tryd.prog W = .ok (.int .i64 (f z)) W := by
  obtain ⟨D, ho, _, hf⟩ := h
  obtain ⟨c, hrun, hat, _⟩ := ho.lookup_int (int_keyed Tryd.underlying3) Tryd.underlying62 Tryd.underlying3 (zero_int W) (keyOf_int_mk Tryd.underlying3 (wf_i64 hz))
  rw [hf z] at hat
  injection hat with hat
  injection hat with _ hat
  rw [hrun, hat]
theorem MapIs.keep {W W' : World} {b n B : Nat} {f : Int → Int} (h : MapIs W b n f) (hb : Below B W W') (hB : W.heap.size ≤ B) : MapIs W' b n f := by
  have hlt := h.lt
  obtain ⟨D, ⟨es, clock, hh, F, hs, hD⟩, hm, hf⟩ := h
  exact ⟨D, ⟨es, clock, (hb.block b (by omega)).trans hh, F, hs, hD⟩, hm, hf⟩
set_option maxRecDepth 100000 in
theorem wpList_putM {w : World} {ops : Array Oper} {rest : List Oper} {o : Oper} {a : Act} {Q : Exit → Act → World → Prop} (hg : o.guard = none) (m x v : Operand) (hop : o.op = Op.mapUpdate 62 m x v)
    (b n : Nat) (f : Int → Int) (hm : a.eval m = .map (some b)) (h : MapIs w b n f) (hn : n < 4096) (z y : Int) (hx : a.eval x = .int .i64 z) (hv : a.eval v = .int .i64 y) (hz : i64p z) (hy : i64p y)
    (hK : ∀ w', MapIs w' b (n + 1) (fun t => if t = z then y else f t) → Below b w w' → wpList Tryd.prog ops Q rest (a.put o.dst undef) w') : wpList Tryd.prog ops Q (o :: rest) a w := by
  have hlt := h.lt
  obtain ⟨D, ho, hmap, hf⟩ := h
  refine wpList_mapUpdate_own w hg m x v 62 hop 3 3 (int_keyed Tryd.underlying3) Tryd.underlying62 (plainElem Tryd.prog 3) b n D hm ho (by unfold maxLen; omega) _ _ (.int .i64 z) hx hv (keyOf_int_mk Tryd.underlying3 (wf_i64 hz))
    (.lit (.int .i64 y)) [] (plainElem_int Tryd.underlying3 (wf_i64 hy)) ?_
  intro w' hw' hgr
  refine hK w' ⟨_, hw', ?_, ?_⟩ ((Below.refl b w).grown hgr (Nat.le_of_lt hlt) (fun k hk => by injection hk with hk; omega))
  · obtain ⟨es, rfl⟩ := hmap
    exact ⟨_, rfl⟩
  · intro t
    show _ = DataW.lit (Lit.int .i64 (if t = z then y else f t))
    by_cases e : t = z
    · subst e
      rw [if_pos rfl, Go.Maps.atKey_put_same hmap (by simp [WideAt.IsKeyLit])]
    · rw [if_neg e, Go.Maps.atKey_put_other (by simpa using e), hf t]
namespace Po
open Mm Od
theorem nodup_at {L : List Int} (hn : L.Nodup) {i j : Nat} (hi : i < L.length) (hj : j < L.length) (e : L[i] = L[j]) : i = j := by
  rcases Nat.lt_trichotomy i j with h | h | h
  · exact absurd e ((List.pairwise_iff_getElem.1 hn) i j hi hj h)
  · exact h
  · exact absurd e.symm ((List.pairwise_iff_getElem.1 hn) j i hj hi h)
theorem getD_at {L : List Int} {i : Nat} (h : i < L.length) : L.getD i 0 = L[i] := by simp [List.getD, List.getElem?_eq_getElem h]
/-- where the numbers of a row stand, counted from one. -/
def atF (L : List Int) : Nat → Int → Int
  | 0, _ => 0
  | k + 1, z => if z = L.getD k 0 then (k : Int) + 1 else atF L k z
theorem atF_none {L : List Int} {k : Nat} {z : Int} (h : ∀ j, j < k → L.getD j 0 ≠ z) : atF L k z = 0 := by
  induction k with
  | zero => rfl
  | succ k ih =>
    unfold atF
    rw [if_neg (fun e => h k (by omega) e.symm)]
    exact ih fun j hj => h j (by omega)
theorem atF_some {L : List Int} (hn : L.Nodup) {i k : Nat} (hi : i < k) (hk : k ≤ L.length) : atF L k (L.getD i 0) = (i : Int) + 1 := by
  induction k with
  | zero => omega
  | succ k ih =>
    unfold atF
    by_cases e : i = k
    · subst e; rw [if_pos rfl]
    · rw [if_neg, ih (by omega) (by omega)]
      intro h
      rw [getD_at (by omega), getD_at (by omega)] at h
      exact e (nodup_at hn _ _ h)
theorem atF_pos {L : List Int} {k : Nat} {z : Int} (h : atF L k z ≠ 0) : ∃ j, j < k ∧ L.getD j 0 = z := by
  apply Classical.byContradiction
  intro hn
  exact h (atF_none fun j hj e => hn ⟨j, hj, e⟩)
theorem atF_fresh {L : List Int} (hn : L.Nodup) {k : Nat} (hk : k < L.length) : atF L k (L.getD k 0) = 0 := atF_none fun j hj e => by
  rw [getD_at (by omega), getD_at hk] at e
  have := nodup_at hn _ _ e
  omega
theorem atF_range {L : List Int} {k : Nat} (z : Int) : 0 ≤ atF L k z ∧ atF L k z ≤ (k : Int) := by
  induction k with
  | zero => exact ⟨Int.le_refl _, Int.le_refl _⟩
  | succ k ih =>
    unfold atF
    split <;> omega
theorem ids_nodup {p : Pl} (h : Sound p) : (collect p).2.Nodup := by
  rw [went_ids h.done64]
  have hm := (went_done h.done64).1
  have key : ∀ l : List Nat, l.Nodup → (∀ s, s ∈ l → p.done.testBit s = true) → (l.map p.ids).Nodup := by
    intro l
    induction l with
    | nil => intro _ _; exact List.nodup_nil
    | cons c r ih =>
      intro hn hd
      rw [List.nodup_cons] at hn
      rw [List.map_cons, List.nodup_cons]
      refine ⟨fun hc => ?_, ih hn.2 fun s hs => hd s (by simp [hs])⟩
      obtain ⟨s, hs, e⟩ := List.mem_map.1 hc
      have := h.uniq s c (.inr (hd s (by simp [hs]))) (.inr (hd c (by simp))) e
      exact hn.1 (this ▸ hs)
  exact key _ (went_nodup h.done64) fun s hs => (hm s hs).2
/-- what goes, goes by a way. -/
theorem goes_way {p : Pl} (h : Sound p) {a b : Nat} (hb : p.done.testBit b = true) (he : E p.m a b) :
    atF (collect p).2 (collect p).2.length (p.ids b) = 0 ∨ (0 < atF (collect p).2 (collect p).2.length (p.ids a) ∧ atF (collect p).2 (collect p).2.length (p.ids a) < atF (collect p).2 (collect p).2.length (p.ids b)) := by
  have hn := ids_nodup h
  by_cases hz : atF (collect p).2 (collect p).2.length (p.ids b) = 0
  · exact .inl hz
  · obtain ⟨y, hy, e⟩ := atF_pos hz
    have hL := went_ids h.done64
    have hlen : (collect p).2.length = (went p).length := by rw [hL, List.length_map]
    have hget : ∀ i (hi : i < (went p).length), (collect p).2.getD i 0 = p.ids (went p)[i] := fun i hi => by
      rw [getD_at (by omega)]
      simp only [hL, List.getElem_map]
    rw [hget y (by omega)] at e
    have hyd := ((went_done h.done64).1 _ (List.getElem_mem (show y < (went p).length by omega))).2
    have hyb := h.uniq _ b (.inr hyd) (.inr hb) e
    obtain ⟨x, hx, ex⟩ := went_order h.done64 h.mok y b a (by rw [List.getElem?_eq_getElem (by omega), hyb]) he
    have hxl : x < (went p).length := by omega
    rw [List.getElem?_eq_getElem hxl] at ex
    injection ex with ex
    have e1 := atF_some hn (i := x) (k := (collect p).2.length) (by omega) (Nat.le_refl _)
    have e2 := atF_some hn (i := y) (k := (collect p).2.length) (by omega) (Nat.le_refl _)
    rw [hget x hxl, ex] at e1
    rw [hget y (by omega), hyb] at e2
    exact .inr ⟨by omega, by omega⟩
end Po
end Go.Proofs.YtakoceablbgchaaDoor
