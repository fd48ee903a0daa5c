/-
  Rows of steps in memory.
-/
import Derived.Test.YtcfdndppkpjleaaProg
import Derived.Test.YtcfdndppkpjleaaTxnMath
import Derived.WalkKit
import Derived.WalkMore
import Derived.WalkLawsBesides
import Derived.WalkSmall
import Derived.LoopTactic
import Derived.Lib.Hide
import Derived.Below
import Derived.OwnWalk
import Derived.Maps.AppendAt
import Derived.Laws.MakeOwn
import Derived.Laws.OwnMore
import Derived.Laws.Cover3
namespace Go.Proofs.Ytcfdndppkpjleaa.Tx
open Go.RowKit
def cellsOf (v : Sp) : List Value := [.int .i64 v.x, .int .i64 v.k, .int .i64 v.n, .bool v.wr]
def flat (L : List Sp) : List Value := L.flatMap cellsOf
theorem flat_nil : flat [] = [] := rfl
theorem flat_len (L : List Sp) : (flat L).length = L.length * 4 := by
  induction L with
  | nil => rfl
  | cons v L ih => simp only [flat, List.flatMap_cons, List.length_append] at ih ⊢; rw [ih]; simp [cellsOf]; omega
theorem flat_append (L M : List Sp) : flat (L ++ M) = flat L ++ flat M := by simp [flat]
theorem flat_snoc (L : List Sp) (v : Sp) : flat (L ++ [v]) = flat L ++ cellsOf v := by simp [flat]
theorem flat_at {L : List Sp} {j : Nat} {v : Sp} (h : L[j]? = some v) (i : Nat) (hi : i < 4) : (flat L)[j * 4 + i]? = (cellsOf v)[i]? := by
  obtain ⟨hl, rfl⟩ := List.getElem?_eq_some_iff.1 h
  have e : L = L.take j ++ (L[j] :: L.drop (j + 1)) := by simp
  have e2 : flat L = flat (L.take j) ++ (cellsOf L[j] ++ flat (L.drop (j + 1))) := by
    conv => lhs; rw [e]
    rw [flat_append]; rfl
  rw [e2, List.getElem?_append_right (by rw [flat_len]; simp; omega), flat_len]
  have : j * 4 + i - (List.take j L).length * 4 = i := by simp; omega
  rw [this, List.getElem?_append_left (by simp [cellsOf]; omega)]
theorem flat_one (L : List Sp) : ∀ u ∈ flat L, u.oneCell' = true := by
  intro u hu
  obtain ⟨v, _, hv⟩ := List.mem_flatMap.1 hu
  simp [cellsOf] at hv
  rcases hv with rfl | rfl | rfl | rfl <;> rfl
/-- a slice reads as these variables. -/
structure VarsAt (w : World) (A : Option Addr) (L : List Sp) : Prop where
  cell : 0 < L.length → ∃ ad, A = some ad ∧ ∀ j u, (flat L)[j]? = some u → w.cell? (ad.add j) = some u
  ok : ∀ v ∈ L, v.ok
theorem cell_lt {w : World} {p : Addr} {v : Value} (h : w.cell? p = some v) : p.block < w.heap.size := World.block_lt_of_cell? w p h
theorem add_block (ad : Addr) (j : Nat) : (ad.add j).block = ad.block := by unfold Addr.add; split <;> rfl
theorem VarsAt.below {w w' : World} {A : Option Addr} {L : List Sp} {B : Nat} (h : VarsAt w A L) (hb : Below B w w') (hB : w.heap.size ≤ B) : VarsAt w' A L :=
  ⟨fun hl => by
    obtain ⟨ad, e, hc⟩ := h.cell hl
    exact ⟨ad, e, fun j u hu => by
      have := hc j u hu
      exact (hb.cell (Nat.lt_of_lt_of_le (cell_lt this) hB)).trans this⟩, h.ok⟩
theorem add_lit (ad : Addr) (j i : Nat) : ad.add (j + (i + 1)) = ⟨(ad.add j).block, (ad.add j).off + (i + 1), none⟩ := by
  rw [← Addr.add_add, Addr.add_succ' _ i]
/-- one of them, in the walk's own words. -/
structure At4 (w : World) (p : Addr) (v : Sp) : Prop where
  c0 : w.cell? p = some (.int .i64 v.x)
  c1 : w.cell? ⟨p.block, p.off + 1, none⟩ = some (.int .i64 v.k)
  c2 : w.cell? ⟨p.block, p.off + 2, none⟩ = some (.int .i64 v.n)
  c3 : w.cell? ⟨p.block, p.off + 3, none⟩ = some (.bool v.wr)
theorem VarsAt.at_ {w : World} {A : Option Addr} {L : List Sp} (h : VarsAt w A L) {j : Nat} (hj : j < L.length) : ∃ ad v, A = some ad ∧ L[j]? = some v ∧ v.ok ∧ At4 w (ad.add (j * 4)) v := by
  obtain ⟨ad, e, hc⟩ := h.cell (by omega)
  have hv := List.getElem?_eq_getElem hj
  refine ⟨ad, L[j], e, hv, h.ok _ (List.getElem_mem hj), ?_, ?_, ?_, ?_⟩
  · exact hc _ _ ((flat_at hv 0 (by decide)).trans rfl)
  · rw [← add_lit ad (j * 4) 0]; exact hc _ _ ((flat_at hv 1 (by decide)).trans rfl)
  · rw [← add_lit ad (j * 4) 1]; exact hc _ _ ((flat_at hv 2 (by decide)).trans rfl)
  · rw [← add_lit ad (j * 4) 2]; exact hc _ _ ((flat_at hv 3 (by decide)).trans rfl)
/-- a row of the call's own reads as these variables. -/
structure OwnVars (w : World) (base : Nat) (e : TypeId) (v : Value) (L : List Sp) : Prop where
  row : w.ownsRow base e 4 v L.length (flat L)
  ok : ∀ v ∈ L, v.ok
theorem OwnVars.slice {w : World} {base : Nat} {e : TypeId} {v : Value} {L : List Sp} (h : OwnVars w base e v L) : ∃ A c, v = .slice A L.length c ∧ L.length ≤ c ∧ c ≤ maxLen ∧ VarsAt w A L := by
  rcases h.row.2 with ⟨rfl, h0⟩ | ⟨g, cap, cur, rfl, hb, hg, hn, hm, hs, ht⟩
  · exact ⟨none, 0, by rw [h0], by omega, by unfold maxLen; omega, ⟨fun hl => by omega, h.ok⟩⟩
  · exact ⟨_, cap, rfl, hn, hm, ⟨fun _ => ⟨_, rfl, h.row.cells rfl⟩, h.ok⟩⟩
theorem own_nil (w : World) (base : Nat) (e : TypeId) : OwnVars w base e (.slice none 0 0) [] := ⟨World.ownsRow_nil _ _ _ _, by simp⟩
theorem below_new (w : World) (o : Obj) : Below w.heap.size w (w.alloc o) := (Below.refl _ _).alloc (Nat.le_refl _) _
/-- a slice's type and its elements': four cells, thirty-two bytes. -/
structure VT (t e : TypeId) : Prop where
  und : Try.prog.underlying t = some (.slice e)
  inf : ∃ i z, Try.prog.info? e = some i ∧ i.zero = some z ∧ i.size = 4 ∧ i.bytes = 32 ∧ z.cells.size = 4
theorem step_info : (Try.prog.info? 106).map (fun i => (i.zero, i.size, i.bytes)) = some (some (.agg #[.int .i64 0, .int .i64 0, .int .i64 0, .bool false]), 4, 32) := by kernel_rfl
theorem rstep_info : (Try.prog.info? 89).map (fun i => (i.zero, i.size, i.bytes)) = some (some (.agg #[.int .i64 0, .int .i64 0, .int .i64 0, .bool false]), 4, 32) := by kernel_rfl
theorem vt : VT 104 106 := by
  obtain ⟨i0, hi, hz0, hz1, hz2⟩ := info_parts step_info
  exact ⟨Try.underlying104, i0, _, hi, hz0, hz1, hz2, rfl⟩
theorem lvt : VT 65 106 := by
  obtain ⟨i0, hi, hz0, hz1, hz2⟩ := info_parts step_info
  exact ⟨Try.underlying65, i0, _, hi, hz0, hz1, hz2, rfl⟩
theorem rvt : VT 75 89 := by
  obtain ⟨i0, hi, hz0, hz1, hz2⟩ := info_parts rstep_info
  exact ⟨Try.underlying75, i0, _, hi, hz0, hz1, hz2, rfl⟩
theorem run_append_vars {t e : TypeId} (T : VT t e) (ty : TypeId) {W : World} {base : Nat} {v : Value} {L : List Sp} (hown : OwnVars W base e v L) {A : Option Addr} (c : Nat) {M : List Sp} (hM : VarsAt W A M) (hlen : L.length + M.length ≤ 1000) (hbase : base ≤ W.heap.size) :
    ∃ v' w', (Builtin.append_ #[t, t] ty #[v, .slice A M.length c]).run Try.prog W = .ok v' w' ∧ OwnVars w' base e v' (L ++ M) ∧ W.grownBy w' v.ownBlock := by
  obtain ⟨i, z, hi, hz, hs, hb, hzs⟩ := T.inf
  have hok : ∀ x ∈ L ++ M, x.ok := fun x hx => by
    rcases List.mem_append.1 hx with h | h
    · exact hown.ok x h
    · exact hM.ok x h
  rcases A with _ | ad
  · have hm : M = [] := by
      rcases M with _ | ⟨x, M⟩
      · rfl
      · obtain ⟨ad, h, _⟩ := hM.cell (by simp)
        cases h
    subst hm
    have hr : (Builtin.append_ #[t, t] ty #[v, .slice none 0 c]).run Try.prog W = .ok v W := by
      rcases hown.row.2 with ⟨rfl, h0⟩ | ⟨g, cap, cur, rfl, _, _, hnc, _⟩
      · simp [Builtin.append_, run_underlying T.und, sizeOf, typeInfo, hi, Builtin.lenOf, Builtin.firstCells]
      · simp [Builtin.append_, run_underlying T.und, sizeOf, typeInfo, hi, Builtin.lenOf, Builtin.firstCells, hnc, storeCells]
    exact ⟨v, W, hr, by simpa using hown, ⟨rfl, rfl, rfl, Nat.le_refl _, fun _ _ _ => rfl⟩⟩
  · have hc : ∀ j u, (flat M)[j]? = some u → W.cell? (ad.add j) = some u := by
      intro j u hu
      rcases M with _ | ⟨x, M⟩
      · simp [flat] at hu
      · obtain ⟨ad', h, hc⟩ := hM.cell (by simp)
        have h := Option.some.inj h
        subst h
        exact hc j u hu
    obtain ⟨v', w', hr, h2, h3, _⟩ := run_append_own (P := Try.prog) W base t ty e i z 4 32 T.und hi hz hs hb hzs (by decide) v L.length (flat L) hown.row ad M.length c (flat M) (flat_len M) hc (flat_one M) (by unfold maxLen; omega) (by omega) hbase
    refine ⟨v', w', hr, ⟨?_, hok⟩, h3⟩
    rw [List.length_append, flat_append]
    exact h2
theorem append_vars {t e : TypeId} (T : VT t e) {ops : Array Oper} {rest : List Oper} {o : Oper} {a : Act} {Q : Exit → Act → World → Prop} (hgd : o.guard = none) (s x : Operand)
    (ho : o.op = .call { callee := .builtin .append, args := #[s, x], argTypes := #[t, t] }) {W : World} {base : Nat} {v : Value} {L : List Sp} (hs : a.eval s = v) (hown : OwnVars W base e v L)
    (A : Option Addr) (c : Nat) (M : List Sp) {m : Nat} (hm : M.length = m) (hx : a.eval x = .slice A m c) (hM : VarsAt W A M) (hlen : L.length + M.length ≤ 1000) (hbase : base ≤ W.heap.size)
    (h : ∀ v' w', OwnVars w' base e v' (L ++ M) → Below base W w' → W.heap.size ≤ w'.heap.size → wpList Try.prog ops Q rest (a.put o.dst v') w') : wpList Try.prog ops Q (o :: rest) a W := by
  subst hm
  obtain ⟨v', w', hr, h2, h3⟩ := run_append_vars T o.type hown c hM hlen hbase
  refine wpList_plain hgd fun _ hK => ?_
  unfold Oper.wp execOp
  simp only [ho, resolve, invoke, builtin, Sem.run_bind, Sem.run_pure, Result.andThen_ok, List.map_toArray, List.map_cons, List.map_nil, hs, hx, hr]
  exact hK _ _ (h v' w' h2 ((Below.refl _ _).grown h3 hbase (fun k hk => (hown.row.lt k hk).1)) h3.size)
theorem OwnVars.alloc {w : World} {base : Nat} {e : TypeId} {v : Value} {L : List Sp} (h : OwnVars w base e v L) (o : Obj) : OwnVars (w.alloc o) base e v L := ⟨h.row.alloc o, h.ok⟩
theorem OwnVars.below {w w' : World} {base : Nat} {e : TypeId} {v : Value} {L : List Sp} {B : Nat} (h : OwnVars w base e v L) (hb : Below B w w') (hB : w.heap.size ≤ B) : OwnVars w' base e v L :=
  ⟨h.row.kept (row := none) ⟨hb.os, hb.tape, hb.output, hb.size, fun k hk _ => hb.block k (by omega)⟩ (by cases hv : v.ownBlock <;> simp), h.ok⟩
/-- a variable in a block of its own. -/
def stepA (v : Sp) : Array Value := #[.int .i64 v.x, .int .i64 v.k, .int .i64 v.n, .bool v.wr]
theorem new_vars (w : World) (v : Sp) (t : TypeId) (hv : v.ok) : VarsAt (w.alloc (.cells (stepA v) t)) (some ⟨w.heap.size, 0, none⟩) [v] :=
  ⟨fun _ => ⟨_, rfl, fun j u hu => by
    have hadd : (⟨w.heap.size, 0, none⟩ : Addr).add j = ⟨w.heap.size, j, none⟩ := by unfold Addr.add; split <;> simp_all
    rw [hadd, cell_of_row _ w.heap.size j (stepA v) t (0, 0) (heap_alloc_new w _)]
    simpa [flat, cellsOf, stepA] using hu⟩, fun x hx => by simp at hx; subst hx; exact hv⟩
theorem new_vars' {w : World} {g : Nat} (hg : w.heap.size = g) (v : Sp) (t : TypeId) (hv : v.ok) : VarsAt (w.alloc (.cells (stepA v) t)) (some ⟨g, 0, none⟩) [v] := by
  subst hg; exact new_vars w v t hv
theorem size_new (w : World) (o : Obj) : (w.alloc o).heap.size = w.heap.size + 1 := by simp
theorem own_empty (w : World) (e : TypeId) {g : Nat} (hg : w.heap.size = g) {base : Nat} (hb : base ≤ w.heap.size) : OwnVars (w.alloc (.cells #[] e)) base e (.slice (some ⟨g, 0, none⟩) 0 0) [] := by
  subst hg
  exact ⟨World.ownsRow_lit w #[] 0 hb (by unfold maxLen; omega) rfl, by simp⟩
theorem VarsAt.nil_ {w : World} {L : List Sp} (h : VarsAt w none L) : L = [] := by
  rcases L with _ | ⟨x, L⟩
  · rfl
  · obtain ⟨ad, h, _⟩ := h.cell (by simp)
    cases h
theorem VarsAt.alloc {w : World} {A : Option Addr} {L : List Sp} (h : VarsAt w A L) (o : Obj) : VarsAt (w.alloc o) A L := h.below (below_new w o) (Nat.le_refl _)
theorem eq_nil {t e : TypeId} (T : VT t e) (A : Option Addr) (n c : Nat) (W : World) : (binOp .eql t (.slice A n c) (.slice none 0 0)).run Try.prog W = .ok (.bool A.isNone) W := by
  simp [binOp, run_equal_slice_nil W t e A n c T.und]
theorem VarsAt.take {w : World} {ad : Addr} {L : List Sp} (h : VarsAt w (some ad) L) (x : Nat) : VarsAt w (some ad) (L.take x) :=
  ⟨fun hl => by
    obtain ⟨ad', e, hc⟩ := h.cell (by simp at hl; omega)
    have e := Option.some.inj e
    subst e
    refine ⟨ad, rfl, fun j u hu => hc j u ?_⟩
    have e2 : flat L = flat (L.take x) ++ flat (L.drop x) := by rw [← flat_append, List.take_append_drop]
    rw [e2, List.getElem?_append_left (List.getElem?_eq_some_iff.1 hu).1]
    exact hu, fun v hv => h.ok v (List.mem_of_mem_take hv)⟩
theorem VarsAt.drop {w : World} {ad : Addr} {L : List Sp} (h : VarsAt w (some ad) L) (x : Nat) : VarsAt w (some (ad.add (x * 4))) (L.drop x) :=
  ⟨fun hl => by
    obtain ⟨ad', e, hc⟩ := h.cell (by simp at hl; omega)
    have e := Option.some.inj e
    subst e
    refine ⟨_, rfl, fun j u hu => ?_⟩
    rw [Addr.add_add]
    refine hc _ u ?_
    have e2 : flat L = flat (L.take x) ++ flat (L.drop x) := by rw [← flat_append, List.take_append_drop]
    have hx : (L.take x).length = x := by simp at hl ⊢; omega
    rw [e2, List.getElem?_append_right (by rw [flat_len, hx]; omega), flat_len, hx, Nat.add_sub_cancel_left]
    exact hu, fun v hv => h.ok v (List.mem_of_mem_drop hv)⟩
theorem VarsAt.none_ (w : World) (A : Option Addr) : VarsAt w A [] := ⟨fun h => by simp at h, by simp⟩
/-- the block b holds the variable v. -/
structure VarAt (w : World) (b : Nat) (t : TypeId) (v : Sp) : Prop where
  is : w.heap[b]? = some (.cells (stepA v) t (0, 0))
theorem stepAt_new (w : World) (v : Sp) (t : TypeId) : VarAt (w.alloc (.cells (stepA v) t)) w.heap.size t v := ⟨heap_alloc_new w _⟩
theorem VarAt.lt {w : World} {b : Nat} {t : TypeId} {v : Sp} (h : VarAt w b t v) : b < w.heap.size := (Array.getElem?_eq_some_iff.1 h.is).1
theorem VarAt.below {w w' : World} {b : Nat} {t : TypeId} {v : Sp} {B : Nat} (h : VarAt w b t v) (hb : Below B w w') (hB : b < B) : VarAt w' b t v := ⟨(hb.block b hB).trans h.is⟩
theorem VarAt.alloc {w : World} {b : Nat} {t : TypeId} {v : Sp} (h : VarAt w b t v) (o : Obj) : VarAt (w.alloc o) b t v := h.below (below_new w o) h.lt
theorem VarAt.c0 {w : World} {b : Nat} {t : TypeId} {v : Sp} (h : VarAt w b t v) : w.cell? ⟨b, 0, none⟩ = some (.int .i64 v.x) := cell_of_row w b 0 _ t (0, 0) h.is
theorem VarAt.c1 {w : World} {b : Nat} {t : TypeId} {v : Sp} (h : VarAt w b t v) : w.cell? ⟨b, 1, none⟩ = some (.int .i64 v.k) := cell_of_row w b 1 _ t (0, 0) h.is
theorem VarAt.c2 {w : World} {b : Nat} {t : TypeId} {v : Sp} (h : VarAt w b t v) : w.cell? ⟨b, 2, none⟩ = some (.int .i64 v.n) := cell_of_row w b 2 _ t (0, 0) h.is
theorem VarAt.c3 {w : World} {b : Nat} {t : TypeId} {v : Sp} (h : VarAt w b t v) : w.cell? ⟨b, 3, none⟩ = some (.bool v.wr) := cell_of_row w b 3 _ t (0, 0) h.is
theorem VarAt.free {w : World} {b : Nat} {t : TypeId} {v : Sp} (h : VarAt w b t v) (i : Nat) : w.frozen? ⟨b, i, none⟩ = false := by
  simp [World.frozen?, h.is]
theorem OwnVars.mono {w : World} {base B : Nat} {e : TypeId} {v : Value} {L : List Sp} (h : OwnVars w base e v L) (hB : B ≤ base) : OwnVars w B e v L := by
  refine ⟨⟨h.row.1, ?_⟩, h.ok⟩
  rcases h.row.2 with hn | ⟨g, cap, cur, e1, hb, rest⟩
  · exact .inl hn
  · exact .inr ⟨g, cap, cur, e1, by omega, rest⟩
theorem flat_set {L : List Sp} {j : Nat} {v v' : Sp} {i : Nat} {u : Value} (h : L[j]? = some v) (hi : i < 4) (hc : (cellsOf v).set i u = cellsOf v') : (flat L).set (j * 4 + i) u = flat (L.set j v') := by
  obtain ⟨hl, rfl⟩ := List.getElem?_eq_some_iff.1 h
  have e : L = L.take j ++ (L[j] :: L.drop (j + 1)) := by simp
  have hj : (L.take j).length = j := by simp; omega
  have e2 : flat L = flat (L.take j) ++ (cellsOf L[j] ++ flat (L.drop (j + 1))) := by
    conv => lhs; rw [e]
    rw [flat_append]; rfl
  rw [e2, List.set_append_right _ _ (by rw [flat_len, hj]; omega), flat_len, hj, Nat.add_sub_cancel_left, List.set_append_left _ _ (by simp [cellsOf]; omega), hc]
  rw [List.set_eq_take_append_cons_drop, if_pos hl, flat_append]
  rfl
/-- one cell of a row of the call's own is put. -/
theorem OwnVars.put {w : World} {base g cap : Nat} {e : TypeId} {L : List Sp} (h : OwnVars w base e (.slice (some ⟨g, 0, none⟩) L.length cap) L) {j : Nat} {v v' : Sp} (hv : L[j]? = some v) (i : Nat) (hi : i < 4) (u : Value) (hc : (cellsOf v).set i u = cellsOf v') (hok : v'.ok) :
    OwnVars (w.setCell ⟨g, j * 4 + i, none⟩ u) base e (.slice (some ⟨g, 0, none⟩) (L.set j v').length cap) (L.set j v') := by
  refine ⟨?_, fun x hx => ?_⟩
  · rw [List.length_set, ← flat_set hv hi hc]
    exact (h.row.stored _ u).1
  · rcases List.mem_or_eq_of_mem_set hx with hx | rfl
    · exact h.ok x hx
    · exact hok
theorem OwnVars.open_ {w : World} {base : Nat} {e : TypeId} {v : Value} {L : List Sp} (h : OwnVars w base e v L) (hl : 0 < L.length) : ∃ g cap, v = .slice (some ⟨g, 0, none⟩) L.length cap ∧ base ≤ g ∧ g < w.heap.size := by
  rcases h.row.2 with ⟨_, h0⟩ | ⟨g, cap, cur, rfl, hb, hg, _⟩
  · omega
  · exact ⟨g, cap, rfl, hb, (Array.getElem?_eq_some_iff.1 hg).1⟩
theorem OwnVars.free {w : World} {base g cap : Nat} {e : TypeId} {L : List Sp} (h : OwnVars w base e (.slice (some ⟨g, 0, none⟩) L.length cap) L) (i : Nat) : w.frozen? ⟨g, i, none⟩ = false := h.row.frozenAt i
theorem OwnVars.get {w : World} {base g cap : Nat} {e : TypeId} {L : List Sp} (h : OwnVars w base e (.slice (some ⟨g, 0, none⟩) L.length cap) L) {j : Nat} {v : Sp} (hv : L[j]? = some v) (i : Nat) (hi : i < 4) : w.cell? ⟨g, j * 4 + i, none⟩ = (cellsOf v)[i]? := by
  have hj : j < L.length := (List.getElem?_eq_some_iff.1 hv).1
  rw [h.row.cellAt _ (by omega), flat_at hv i hi]
theorem OwnVars.get0 {w : World} {base g cap : Nat} {e : TypeId} {L : List Sp} (h : OwnVars w base e (.slice (some ⟨g, 0, none⟩) L.length cap) L) {j : Nat} {v : Sp} (hv : L[j]? = some v) : w.cell? ⟨g, j * 4, none⟩ = some (.int .i64 v.x) := h.get hv 0 (by decide)
/-- a slice that reads as these steps, its room within bounds. -/
structure SlAt (w : World) (A : Option Addr) (c : Nat) (L : List Sp) : Prop where
  at_ : VarsAt w A L
  le : L.length ≤ c
  max : c ≤ maxLen
theorem SlAt.below {w w' : World} {A : Option Addr} {c : Nat} {L : List Sp} (h : SlAt w A c L) (hb : Below w.heap.size w w') : SlAt w' A c L := ⟨h.at_.below hb (Nat.le_refl _), h.le, h.max⟩
theorem SlAt.alloc {w : World} {A : Option Addr} {c : Nat} {L : List Sp} (h : SlAt w A c L) (o : Obj) : SlAt (w.alloc o) A c L := h.below (below_new w o)
theorem OwnVars.sl {w : World} {base : Nat} {e : TypeId} {v : Value} {L : List Sp} (h : OwnVars w base e v L) : ∃ A c, v = .slice A L.length c ∧ SlAt w A c L := by
  obtain ⟨A, c, e, h1, h2, h3⟩ := h.slice
  exact ⟨A, c, e, h3, h1, h2⟩
/-- a row that was made behind a point. -/
def Fr (n : Nat) (T : Option Addr) : Prop := ∀ ad, T = some ad → n ≤ ad.block
theorem Fr.mono {n m : Nat} {T : Option Addr} (h : Fr n T) (hm : m ≤ n) : Fr m T := fun ad e => Nat.le_trans hm (h ad e)
theorem OwnVars.slf {w : World} {base : Nat} {e : TypeId} {v : Value} {L : List Sp} (h : OwnVars w base e v L) : ∃ A c, v = .slice A L.length c ∧ SlAt w A c L ∧ Fr base A := by
  obtain ⟨A, c, e1, h1⟩ := h.sl
  refine ⟨A, c, e1, h1, ?_⟩
  rcases h.row.2 with ⟨e2, _⟩ | ⟨g, cap, cur, e2, hb, _⟩
  · rw [e1] at e2
    have ha := (Value.slice.inj e2).1
    exact fun ad e => by rw [ha] at e; cases e
  · rw [e1] at e2
    have ha := (Value.slice.inj e2).1
    exact fun ad e => by rw [ha] at e; cases e; exact hb
end Go.Proofs.Ytcfdndppkpjleaa.Tx
