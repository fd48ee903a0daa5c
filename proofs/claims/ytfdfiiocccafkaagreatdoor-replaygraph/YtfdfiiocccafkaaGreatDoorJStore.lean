/-
  Variables and what the calls of layer 7 make of a store, in plain mathematics: no program in it.
  Rows of variables in memory.
  Contracts of the functions that make rows of variables out of others: the statements' two, the document's with, the library's Clone.
  Contracts of store's calls that read, put and mark.
  The contracts of store.Put and store.Mark.
  The contracts of store.Drop, store.New and store.Values: loops that write a row of the call's own.
  Rows of values in memory; the contract of store.Values.
-/
import Derived.Test.YtfdfiiocccafkaaGreatDoorJMath
import Derived.Test.YtfdfiiocccafkaaGreatDoorProg
import Derived.WalkKit
import Derived.WalkMore
import Derived.WalkLawsBesides
import Derived.WalkSmall
import Derived.LoopTactic
import Derived.Lib.Hide
import Derived.Below
import Derived.OwnWalk
import Derived.Maps.AppendAt
import Derived.Laws.MakeOwn
import Derived.Laws.OwnMore
import Derived.Laws.Cover3
import Derived.Test.YtfdfiiocccafkaaGreatDoorJSet
namespace Go.Proofs.YtfdfiiocccafkaaGreatDoor
namespace St
def i64p (n : Int) : Prop := -9223372036854775808 ≤ n ∧ n ≤ 9223372036854775807
/-- a variable: what it has (kind, number), since when, from whom, who read that. -/
structure Vr where
  k : Int
  n : Int
  ver : Int
  wr : Int
  m : Nat
def Vr.ok (v : Vr) : Prop := i64p v.k ∧ i64p v.n ∧ i64p v.ver ∧ i64p v.wr ∧ v.m < 18446744073709551616
def right (k n : Int) : Bool := if k = 0 then decide (n = 0) else if k = 1 then true else if k = 2 then decide (0 ≤ n) && decide (n < 64) else false
def zero : Vr := ⟨0, 0, 0, 0, 0⟩
def fresh : Vr := ⟨1, 0, 0, -1, 0⟩
theorem zero_ok : zero.ok := by refine ⟨⟨?_, ?_⟩, ⟨?_, ?_⟩, ⟨?_, ?_⟩, ⟨?_, ?_⟩, ?_⟩ <;> decide
theorem fresh_ok : fresh.ok := by refine ⟨⟨?_, ?_⟩, ⟨?_, ?_⟩, ⟨?_, ?_⟩, ⟨?_, ?_⟩, ?_⟩ <;> decide
/-- with a slot among the readers. -/
def mk (s : Int) (v : Vr) : Vr := ⟨v.k, v.n, v.ver, v.wr, Sm.add v.m s⟩
/-- without the slot. -/
def dr (s : Int) (v : Vr) : Vr := ⟨v.k, v.n, v.ver, if v.wr = s then -1 else v.wr, Sm.less v.m s⟩
theorem mk_ok {v : Vr} (h : v.ok) (s : Int) : (mk s v).ok := ⟨h.1, h.2.1, h.2.2.1, h.2.2.2.1, Sm.add_lt s h.2.2.2.2⟩
theorem dr_ok {v : Vr} (h : v.ok) (s : Int) : (dr s v).ok := by
  refine ⟨h.1, h.2.1, h.2.2.1, ?_, Sm.less_lt s h.2.2.2.2⟩
  show i64p (if v.wr = s then -1 else v.wr)
  split
  · unfold i64p; omega
  · exact h.2.2.2.1
def has (L : List Vr) (x : Int) : Prop := 0 ≤ x ∧ x < (L.length : Int)
instance (L : List Vr) (x : Int) : Decidable (has L x) := by unfold has; infer_instance
def slot (s : Int) : Prop := 0 ≤ s ∧ s < 32
instance (s : Int) : Decidable (slot s) := by unfold slot; infer_instance
def at_ (L : List Vr) (x : Int) : Vr := L.getD x.toNat zero
def getV (L : List Vr) (x : Int) : Vr := if has L x then at_ L x else zero
def getE (L : List Vr) (x : Int) : Int := if has L x then 0 else 3
def putE (L : List Vr) (x k n wr : Int) : Int := if has L x then (if right k n = true ∧ (wr = -1 ∨ slot wr) then 0 else 2) else 3
def putL (L : List Vr) (x k n ver wr : Int) : List Vr := if putE L x k n wr = 0 then L.set x.toNat ⟨k, n, ver, wr, 0⟩ else L
def markE (L : List Vr) (x s : Int) : Int := if has L x then (if slot s then 0 else 2) else 3
def markL (L : List Vr) (x s : Int) : List Vr := if markE L x s = 0 then L.set x.toNat (mk s (at_ L x)) else L
def dropL (L : List Vr) (s : Int) : List Vr := L.map (dr s)
def newIs (n : Int) : Bool := decide (0 ≤ n) && decide (n ≤ 64)
def newL (n : Int) : List Vr := if newIs n = true then List.replicate n.toNat fresh else []
theorem take_step {α : Type} {l : List α} {k : Nat} {z : α} (h : l[k]? = some z) : l.take (k + 1) = l.take k ++ [z] := by
  obtain ⟨hl, rfl⟩ := List.getElem?_eq_some_iff.1 h
  exact List.take_succ_eq_append_getElem hl
theorem at_mem {L : List Vr} {x : Int} (h : has L x) : L[x.toNat]? = some (at_ L x) := by
  unfold at_ has at *
  have : x.toNat < L.length := by omega
  simp [List.getD, List.getElem?_eq_getElem this]
end St
end Go.Proofs.YtfdfiiocccafkaaGreatDoor
namespace Go.Proofs.YtfdfiiocccafkaaGreatDoor.Sx
open Go.RowKit St
def cellsOf (v : Vr) : List Value := [.int .i64 v.k, .int .i64 v.n, .int .i64 v.ver, .int .i64 v.wr, .int .u64 (v.m : Nat)]
def flat (L : List Vr) : List Value := L.flatMap cellsOf
theorem flat_nil : flat [] = [] := rfl
theorem flat_len (L : List Vr) : (flat L).length = L.length * 5 := by
  induction L with
  | nil => rfl
  | cons v L ih => simp only [flat, List.flatMap_cons, List.length_append] at ih ⊢; rw [ih]; simp [cellsOf]; omega
theorem flat_append (L M : List Vr) : flat (L ++ M) = flat L ++ flat M := by simp [flat]
theorem flat_snoc (L : List Vr) (v : Vr) : flat (L ++ [v]) = flat L ++ cellsOf v := by simp [flat]
theorem flat_at {L : List Vr} {j : Nat} {v : Vr} (h : L[j]? = some v) (i : Nat) (hi : i < 5) : (flat L)[j * 5 + i]? = (cellsOf v)[i]? := by
  obtain ⟨hl, rfl⟩ := List.getElem?_eq_some_iff.1 h
  have e : L = L.take j ++ (L[j] :: L.drop (j + 1)) := by simp
  have e2 : flat L = flat (L.take j) ++ (cellsOf L[j] ++ flat (L.drop (j + 1))) := by
    conv => lhs; rw [e]
    rw [flat_append]; rfl
  rw [e2, List.getElem?_append_right (by rw [flat_len]; simp; omega), flat_len]
  have : j * 5 + i - (List.take j L).length * 5 = i := by simp; omega
  rw [this, List.getElem?_append_left (by simp [cellsOf]; omega)]
theorem flat_one (L : List Vr) : ∀ u ∈ flat L, u.oneCell' = true := by
  intro u hu
  obtain ⟨v, _, hv⟩ := List.mem_flatMap.1 hu
  simp [cellsOf] at hv
  rcases hv with rfl | rfl | rfl | rfl | rfl <;> rfl
/-- a slice reads as these variables. -/
structure VarsAt (w : World) (A : Option Addr) (L : List Vr) : Prop where
  cell : 0 < L.length → ∃ ad, A = some ad ∧ ∀ j u, (flat L)[j]? = some u → w.cell? (ad.add j) = some u
  ok : ∀ v ∈ L, v.ok
theorem cell_lt {w : World} {p : Addr} {v : Value} (h : w.cell? p = some v) : p.block < w.heap.size := World.block_lt_of_cell? w p h
theorem add_block (ad : Addr) (j : Nat) : (ad.add j).block = ad.block := by unfold Addr.add; split <;> rfl
theorem VarsAt.below {w w' : World} {A : Option Addr} {L : List Vr} {B : Nat} (h : VarsAt w A L) (hb : Below B w w') (hB : w.heap.size ≤ B) : VarsAt w' A L :=
  ⟨fun hl => by
    obtain ⟨ad, e, hc⟩ := h.cell hl
    exact ⟨ad, e, fun j u hu => by
      have := hc j u hu
      exact (hb.cell (Nat.lt_of_lt_of_le (cell_lt this) hB)).trans this⟩, h.ok⟩
theorem add_lit (ad : Addr) (j i : Nat) : ad.add (j + (i + 1)) = ⟨(ad.add j).block, (ad.add j).off + (i + 1), none⟩ := by
  rw [← Addr.add_add, Addr.add_succ' _ i]
/-- one of them, in the walk's own words. -/
structure At5 (w : World) (p : Addr) (v : Vr) : Prop where
  c0 : w.cell? p = some (.int .i64 v.k)
  c1 : w.cell? ⟨p.block, p.off + 1, none⟩ = some (.int .i64 v.n)
  c2 : w.cell? ⟨p.block, p.off + 2, none⟩ = some (.int .i64 v.ver)
  c3 : w.cell? ⟨p.block, p.off + 3, none⟩ = some (.int .i64 v.wr)
  c4 : w.cell? ⟨p.block, p.off + 4, none⟩ = some (.int .u64 (v.m : Nat))
theorem VarsAt.at_ {w : World} {A : Option Addr} {L : List Vr} (h : VarsAt w A L) {j : Nat} (hj : j < L.length) : ∃ ad v, A = some ad ∧ L[j]? = some v ∧ v.ok ∧ At5 w (ad.add (j * 5)) v := by
  obtain ⟨ad, e, hc⟩ := h.cell (by omega)
  have hv := List.getElem?_eq_getElem hj
  refine ⟨ad, L[j], e, hv, h.ok _ (List.getElem_mem hj), ?_, ?_, ?_, ?_, ?_⟩
  · exact hc _ _ ((flat_at hv 0 (by decide)).trans rfl)
  · rw [← add_lit ad (j * 5) 0]; exact hc _ _ ((flat_at hv 1 (by decide)).trans rfl)
  · rw [← add_lit ad (j * 5) 1]; exact hc _ _ ((flat_at hv 2 (by decide)).trans rfl)
  · rw [← add_lit ad (j * 5) 2]; exact hc _ _ ((flat_at hv 3 (by decide)).trans rfl)
  · rw [← add_lit ad (j * 5) 3]; exact hc _ _ ((flat_at hv 4 (by decide)).trans rfl)
/-- a row of the call's own reads as these variables. -/
structure OwnVars (w : World) (base : Nat) (e : TypeId) (v : Value) (L : List Vr) : Prop where
  row : w.ownsRow base e 5 v L.length (flat L)
  ok : ∀ v ∈ L, v.ok
theorem OwnVars.slice {w : World} {base : Nat} {e : TypeId} {v : Value} {L : List Vr} (h : OwnVars w base e v L) : ∃ A c, v = .slice A L.length c ∧ L.length ≤ c ∧ c ≤ maxLen ∧ VarsAt w A L := by
  rcases h.row.2 with ⟨rfl, h0⟩ | ⟨g, cap, cur, rfl, hb, hg, hn, hm, hs, ht⟩
  · exact ⟨none, 0, by rw [h0], by omega, by unfold maxLen; omega, ⟨fun hl => by omega, h.ok⟩⟩
  · exact ⟨_, cap, rfl, hn, hm, ⟨fun _ => ⟨_, rfl, h.row.cells rfl⟩, h.ok⟩⟩
theorem own_nil (w : World) (base : Nat) (e : TypeId) : OwnVars w base e (.slice none 0 0) [] := ⟨World.ownsRow_nil _ _ _ _, by simp⟩
theorem below_new (w : World) (o : Obj) : Below w.heap.size w (w.alloc o) := (Below.refl _ _).alloc (Nat.le_refl _) _
/-- a slice's type and its elements': five cells, forty bytes. -/
structure VT (t e : TypeId) : Prop where
  und : Tryz.prog.underlying t = some (.slice e)
  inf : ∃ i z, Tryz.prog.info? e = some i ∧ i.zero = some z ∧ i.size = 5 ∧ i.bytes = 40 ∧ z.cells.size = 5
theorem var_info : (Tryz.prog.info? 141).map (fun i => (i.zero, i.size, i.bytes)) = some (some (.agg #[.int .i64 0, .int .i64 0, .int .i64 0, .int .i64 0, .int .u64 0]), 5, 40) := by kernel_rfl
theorem rvar_info : (Tryz.prog.info? 73).map (fun i => (i.zero, i.size, i.bytes)) = some (some (.agg #[.int .i64 0, .int .i64 0, .int .i64 0, .int .i64 0, .int .u64 0]), 5, 40) := by kernel_rfl
theorem vt : VT 91 141 := by
  obtain ⟨i0, hi, hz0, hz1, hz2⟩ := info_parts var_info
  exact ⟨Tryz.underlying91, i0, _, hi, hz0, hz1, hz2, rfl⟩
theorem rvt : VT 53 73 := by
  obtain ⟨i0, hi, hz0, hz1, hz2⟩ := info_parts rvar_info
  exact ⟨Tryz.underlying53, i0, _, hi, hz0, hz1, hz2, rfl⟩
theorem run_append_vars {t e : TypeId} (T : VT t e) (ty : TypeId) {W : World} {base : Nat} {v : Value} {L : List Vr} (hown : OwnVars W base e v L) {A : Option Addr} (c : Nat) {M : List Vr} (hM : VarsAt W A M) (hlen : L.length + M.length ≤ 1000) (hbase : base ≤ W.heap.size) :
    ∃ v' w', (Builtin.append_ #[t, t] ty #[v, .slice A M.length c]).run Tryz.prog W = .ok v' w' ∧ OwnVars w' base e v' (L ++ M) ∧ W.grownBy w' v.ownBlock := by
  obtain ⟨i, z, hi, hz, hs, hb, hzs⟩ := T.inf
  have hok : ∀ x ∈ L ++ M, x.ok := fun x hx => by
    rcases List.mem_append.1 hx with h | h
    · exact hown.ok x h
    · exact hM.ok x h
  rcases A with _ | ad
  · have hm : M = [] := by
      rcases M with _ | ⟨x, M⟩
      · rfl
      · obtain ⟨ad, h, _⟩ := hM.cell (by simp)
        cases h
    subst hm
    have hr : (Builtin.append_ #[t, t] ty #[v, .slice none 0 c]).run Tryz.prog W = .ok v W := by
      rcases hown.row.2 with ⟨rfl, h0⟩ | ⟨g, cap, cur, rfl, _, _, hnc, _⟩
      · simp [Builtin.append_, run_underlying T.und, sizeOf, typeInfo, hi, Builtin.lenOf, Builtin.firstCells]
      · simp [Builtin.append_, run_underlying T.und, sizeOf, typeInfo, hi, Builtin.lenOf, Builtin.firstCells, hnc, storeCells]
    exact ⟨v, W, hr, by simpa using hown, ⟨rfl, rfl, rfl, Nat.le_refl _, fun _ _ _ => rfl⟩⟩
  · have hc : ∀ j u, (flat M)[j]? = some u → W.cell? (ad.add j) = some u := by
      intro j u hu
      rcases M with _ | ⟨x, M⟩
      · simp [flat] at hu
      · obtain ⟨ad', h, hc⟩ := hM.cell (by simp)
        have h := Option.some.inj h
        subst h
        exact hc j u hu
    obtain ⟨v', w', hr, h2, h3, _⟩ := run_append_own (P := Tryz.prog) W base t ty e i z 5 40 T.und hi hz hs hb hzs (by decide) v L.length (flat L) hown.row ad M.length c (flat M) (flat_len M) hc (flat_one M) (by unfold maxLen; omega) (by omega) hbase
    refine ⟨v', w', hr, ⟨?_, hok⟩, h3⟩
    rw [List.length_append, flat_append]
    exact h2
theorem append_vars {t e : TypeId} (T : VT t e) {ops : Array Oper} {rest : List Oper} {o : Oper} {a : Act} {Q : Exit → Act → World → Prop} (hgd : o.guard = none) (s x : Operand)
    (ho : o.op = .call { callee := .builtin .append, args := #[s, x], argTypes := #[t, t] }) {W : World} {base : Nat} {v : Value} {L : List Vr} (hs : a.eval s = v) (hown : OwnVars W base e v L)
    (A : Option Addr) (c : Nat) (M : List Vr) {m : Nat} (hm : M.length = m) (hx : a.eval x = .slice A m c) (hM : VarsAt W A M) (hlen : L.length + M.length ≤ 1000) (hbase : base ≤ W.heap.size)
    (h : ∀ v' w', OwnVars w' base e v' (L ++ M) → Below base W w' → W.heap.size ≤ w'.heap.size → wpList Tryz.prog ops Q rest (a.put o.dst v') w') : wpList Tryz.prog ops Q (o :: rest) a W := by
  subst hm
  obtain ⟨v', w', hr, h2, h3⟩ := run_append_vars T o.type hown c hM hlen hbase
  refine wpList_plain hgd fun _ hK => ?_
  unfold Oper.wp execOp
  simp only [ho, resolve, invoke, builtin, Sem.run_bind, Sem.run_pure, Result.andThen_ok, List.map_toArray, List.map_cons, List.map_nil, hs, hx, hr]
  exact hK _ _ (h v' w' h2 ((Below.refl _ _).grown h3 hbase (fun k hk => (hown.row.lt k hk).1)) h3.size)
theorem OwnVars.alloc {w : World} {base : Nat} {e : TypeId} {v : Value} {L : List Vr} (h : OwnVars w base e v L) (o : Obj) : OwnVars (w.alloc o) base e v L := ⟨h.row.alloc o, h.ok⟩
theorem OwnVars.below {w w' : World} {base : Nat} {e : TypeId} {v : Value} {L : List Vr} {B : Nat} (h : OwnVars w base e v L) (hb : Below B w w') (hB : w.heap.size ≤ B) : OwnVars w' base e v L :=
  ⟨h.row.kept (row := none) ⟨hb.os, hb.tape, hb.output, hb.size, fun k hk _ => hb.block k (by omega)⟩ (by cases hv : v.ownBlock <;> simp), h.ok⟩
/-- a variable in a block of its own. -/
def varA (v : Vr) : Array Value := #[.int .i64 v.k, .int .i64 v.n, .int .i64 v.ver, .int .i64 v.wr, .int .u64 (v.m : Nat)]
theorem new_vars (w : World) (v : Vr) (t : TypeId) (hv : v.ok) : VarsAt (w.alloc (.cells (varA v) t)) (some ⟨w.heap.size, 0, none⟩) [v] :=
  ⟨fun _ => ⟨_, rfl, fun j u hu => by
    have hadd : (⟨w.heap.size, 0, none⟩ : Addr).add j = ⟨w.heap.size, j, none⟩ := by unfold Addr.add; split <;> simp_all
    rw [hadd, cell_of_row _ w.heap.size j (varA v) t (0, 0) (heap_alloc_new w _)]
    simpa [flat, cellsOf, varA] using hu⟩, fun x hx => by simp at hx; subst hx; exact hv⟩
theorem new_vars' {w : World} {g : Nat} (hg : w.heap.size = g) (v : Vr) (t : TypeId) (hv : v.ok) : VarsAt (w.alloc (.cells (varA v) t)) (some ⟨g, 0, none⟩) [v] := by
  subst hg; exact new_vars w v t hv
theorem size_new (w : World) (o : Obj) : (w.alloc o).heap.size = w.heap.size + 1 := by simp
theorem own_empty (w : World) (e : TypeId) {g : Nat} (hg : w.heap.size = g) {base : Nat} (hb : base ≤ w.heap.size) : OwnVars (w.alloc (.cells #[] e)) base e (.slice (some ⟨g, 0, none⟩) 0 0) [] := by
  subst hg
  exact ⟨World.ownsRow_lit w #[] 0 hb (by unfold maxLen; omega) rfl, by simp⟩
theorem VarsAt.nil_ {w : World} {L : List Vr} (h : VarsAt w none L) : L = [] := by
  rcases L with _ | ⟨x, L⟩
  · rfl
  · obtain ⟨ad, h, _⟩ := h.cell (by simp)
    cases h
theorem VarsAt.alloc {w : World} {A : Option Addr} {L : List Vr} (h : VarsAt w A L) (o : Obj) : VarsAt (w.alloc o) A L := h.below (below_new w o) (Nat.le_refl _)
theorem eq_nil {t e : TypeId} (T : VT t e) (A : Option Addr) (n c : Nat) (W : World) : (binOp .eql t (.slice A n c) (.slice none 0 0)).run Tryz.prog W = .ok (.bool A.isNone) W := by
  simp [binOp, run_equal_slice_nil W t e A n c T.und]
theorem VarsAt.take {w : World} {ad : Addr} {L : List Vr} (h : VarsAt w (some ad) L) (x : Nat) : VarsAt w (some ad) (L.take x) :=
  ⟨fun hl => by
    obtain ⟨ad', e, hc⟩ := h.cell (by simp at hl; omega)
    have e := Option.some.inj e
    subst e
    refine ⟨ad, rfl, fun j u hu => hc j u ?_⟩
    have e2 : flat L = flat (L.take x) ++ flat (L.drop x) := by rw [← flat_append, List.take_append_drop]
    rw [e2, List.getElem?_append_left (List.getElem?_eq_some_iff.1 hu).1]
    exact hu, fun v hv => h.ok v (List.mem_of_mem_take hv)⟩
theorem VarsAt.drop {w : World} {ad : Addr} {L : List Vr} (h : VarsAt w (some ad) L) (x : Nat) : VarsAt w (some (ad.add (x * 5))) (L.drop x) :=
  ⟨fun hl => by
    obtain ⟨ad', e, hc⟩ := h.cell (by simp at hl; omega)
    have e := Option.some.inj e
    subst e
    refine ⟨_, rfl, fun j u hu => ?_⟩
    rw [Addr.add_add]
    refine hc _ u ?_
    have e2 : flat L = flat (L.take x) ++ flat (L.drop x) := by rw [← flat_append, List.take_append_drop]
    have hx : (L.take x).length = x := by simp at hl ⊢; omega
    rw [e2, List.getElem?_append_right (by rw [flat_len, hx]; omega), flat_len, hx, Nat.add_sub_cancel_left]
    exact hu, fun v hv => h.ok v (List.mem_of_mem_drop hv)⟩
theorem VarsAt.none_ (w : World) (A : Option Addr) : VarsAt w A [] := ⟨fun h => by simp at h, by simp⟩
/-- the block b holds the variable v. -/
structure VarAt (w : World) (b : Nat) (t : TypeId) (v : Vr) : Prop where
  is : w.heap[b]? = some (.cells (varA v) t (0, 0))
theorem varAt_new (w : World) (v : Vr) (t : TypeId) : VarAt (w.alloc (.cells (varA v) t)) w.heap.size t v := ⟨heap_alloc_new w _⟩
theorem VarAt.lt {w : World} {b : Nat} {t : TypeId} {v : Vr} (h : VarAt w b t v) : b < w.heap.size := (Array.getElem?_eq_some_iff.1 h.is).1
theorem VarAt.below {w w' : World} {b : Nat} {t : TypeId} {v : Vr} {B : Nat} (h : VarAt w b t v) (hb : Below B w w') (hB : b < B) : VarAt w' b t v := ⟨(hb.block b hB).trans h.is⟩
theorem VarAt.alloc {w : World} {b : Nat} {t : TypeId} {v : Vr} (h : VarAt w b t v) (o : Obj) : VarAt (w.alloc o) b t v := h.below (below_new w o) h.lt
theorem VarAt.c0 {w : World} {b : Nat} {t : TypeId} {v : Vr} (h : VarAt w b t v) : w.cell? ⟨b, 0, none⟩ = some (.int .i64 v.k) := cell_of_row w b 0 _ t (0, 0) h.is
theorem VarAt.c1 {w : World} {b : Nat} {t : TypeId} {v : Vr} (h : VarAt w b t v) : w.cell? ⟨b, 1, none⟩ = some (.int .i64 v.n) := cell_of_row w b 1 _ t (0, 0) h.is
theorem VarAt.c2 {w : World} {b : Nat} {t : TypeId} {v : Vr} (h : VarAt w b t v) : w.cell? ⟨b, 2, none⟩ = some (.int .i64 v.ver) := cell_of_row w b 2 _ t (0, 0) h.is
theorem VarAt.c3 {w : World} {b : Nat} {t : TypeId} {v : Vr} (h : VarAt w b t v) : w.cell? ⟨b, 3, none⟩ = some (.int .i64 v.wr) := cell_of_row w b 3 _ t (0, 0) h.is
theorem VarAt.c4 {w : World} {b : Nat} {t : TypeId} {v : Vr} (h : VarAt w b t v) : w.cell? ⟨b, 4, none⟩ = some (.int .u64 (v.m : Nat)) := cell_of_row w b 4 _ t (0, 0) h.is
theorem VarAt.free {w : World} {b : Nat} {t : TypeId} {v : Vr} (h : VarAt w b t v) (i : Nat) : w.frozen? ⟨b, i, none⟩ = false := by
  simp [World.frozen?, h.is]
theorem OwnVars.mono {w : World} {base B : Nat} {e : TypeId} {v : Value} {L : List Vr} (h : OwnVars w base e v L) (hB : B ≤ base) : OwnVars w B e v L := by
  refine ⟨⟨h.row.1, ?_⟩, h.ok⟩
  rcases h.row.2 with hn | ⟨g, cap, cur, e1, hb, rest⟩
  · exact .inl hn
  · exact .inr ⟨g, cap, cur, e1, by omega, rest⟩
theorem flat_set {L : List Vr} {j : Nat} {v v' : Vr} {i : Nat} {u : Value} (h : L[j]? = some v) (hi : i < 5) (hc : (cellsOf v).set i u = cellsOf v') : (flat L).set (j * 5 + i) u = flat (L.set j v') := by
  obtain ⟨hl, rfl⟩ := List.getElem?_eq_some_iff.1 h
  have e : L = L.take j ++ (L[j] :: L.drop (j + 1)) := by simp
  have hj : (L.take j).length = j := by simp; omega
  have e2 : flat L = flat (L.take j) ++ (cellsOf L[j] ++ flat (L.drop (j + 1))) := by
    conv => lhs; rw [e]
    rw [flat_append]; rfl
  rw [e2, List.set_append_right _ _ (by rw [flat_len, hj]; omega), flat_len, hj, Nat.add_sub_cancel_left, List.set_append_left _ _ (by simp [cellsOf]; omega), hc]
  rw [List.set_eq_take_append_cons_drop, if_pos hl, flat_append]
  rfl
/-- one cell of a row of the call's own is put. -/
theorem OwnVars.put {w : World} {base g cap : Nat} {e : TypeId} {L : List Vr} (h : OwnVars w base e (.slice (some ⟨g, 0, none⟩) L.length cap) L) {j : Nat} {v v' : Vr} (hv : L[j]? = some v) (i : Nat) (hi : i < 5) (u : Value) (hc : (cellsOf v).set i u = cellsOf v') (hok : v'.ok) :
    OwnVars (w.setCell ⟨g, j * 5 + i, none⟩ u) base e (.slice (some ⟨g, 0, none⟩) (L.set j v').length cap) (L.set j v') := by
  refine ⟨?_, fun x hx => ?_⟩
  · rw [List.length_set, ← flat_set hv hi hc]
    exact (h.row.stored _ u).1
  · rcases List.mem_or_eq_of_mem_set hx with hx | rfl
    · exact h.ok x hx
    · exact hok
theorem OwnVars.open_ {w : World} {base : Nat} {e : TypeId} {v : Value} {L : List Vr} (h : OwnVars w base e v L) (hl : 0 < L.length) : ∃ g cap, v = .slice (some ⟨g, 0, none⟩) L.length cap ∧ base ≤ g ∧ g < w.heap.size := by
  rcases h.row.2 with ⟨_, h0⟩ | ⟨g, cap, cur, rfl, hb, hg, _⟩
  · omega
  · exact ⟨g, cap, rfl, hb, (Array.getElem?_eq_some_iff.1 hg).1⟩
theorem OwnVars.free {w : World} {base g cap : Nat} {e : TypeId} {L : List Vr} (h : OwnVars w base e (.slice (some ⟨g, 0, none⟩) L.length cap) L) (i : Nat) : w.frozen? ⟨g, i, none⟩ = false := h.row.frozenAt i
theorem OwnVars.get {w : World} {base g cap : Nat} {e : TypeId} {L : List Vr} (h : OwnVars w base e (.slice (some ⟨g, 0, none⟩) L.length cap) L) {j : Nat} {v : Vr} (hv : L[j]? = some v) (i : Nat) (hi : i < 5) : w.cell? ⟨g, j * 5 + i, none⟩ = (cellsOf v)[i]? := by
  have hj : j < L.length := (List.getElem?_eq_some_iff.1 hv).1
  rw [h.row.cellAt _ (by omega), flat_at hv i hi]
theorem OwnVars.get0 {w : World} {base g cap : Nat} {e : TypeId} {L : List Vr} (h : OwnVars w base e (.slice (some ⟨g, 0, none⟩) L.length cap) L) {j : Nat} {v : Vr} (hv : L[j]? = some v) : w.cell? ⟨g, j * 5, none⟩ = some (.int .i64 v.k) := h.get hv 0 (by decide)
/-- a row that was made behind a point. -/
def Fr (n : Nat) (T : Option Addr) : Prop := ∀ ad, T = some ad → n ≤ ad.block
theorem Fr.mono {n m : Nat} {T : Option Addr} (h : Fr n T) (hm : m ≤ n) : Fr m T := fun ad e => Nat.le_trans hm (h ad e)
theorem OwnVars.slf {w : World} {base : Nat} {e : TypeId} {v : Value} {L : List Vr} (h : OwnVars w base e v L) : ∃ A c, v = .slice A L.length c ∧ VarsAt w A L ∧ Fr base A := by
  obtain ⟨A, c, e1, _, _, h1⟩ := h.slice
  refine ⟨A, c, e1, h1, ?_⟩
  rcases h.row.2 with ⟨e2, _⟩ | ⟨g, cap, cur, e2, hb, _⟩
  · rw [e1] at e2
    have ha := (Value.slice.inj e2).1
    exact fun ad e => by rw [ha] at e; cases e
  · rw [e1] at e2
    have ha := (Value.slice.inj e2).1
    exact fun ad e => by rw [ha] at e; cases e; exact hb
end Go.Proofs.YtfdfiiocccafkaaGreatDoor.Sx
namespace Go.Proofs.YtfdfiiocccafkaaGreatDoor.Sx
open Go.RowKit St
def RowRel (L : List Vr) (e : TypeId) (w : World) (v i : Value) (wr : World) : Prop := ∃ k : Nat, k ≤ L.length ∧ i = .int .i64 k ∧ OwnVars wr w.heap.size e v (L.take k) ∧ Below w.heap.size w wr
/-- a row of the call's own, and nothing that was there is changed. -/
def RowPost (L : List Vr) (e : TypeId) (w : World) (x : Ending) (w' : World) : Prop := ∃ v, x = .returned v ∧ OwnVars w' w.heap.size e v L ∧ Below w.heap.size w w'
set_option maxHeartbeats 1000000 in
theorem clone_any (A : Option Addr) (c : Nat) (L : List Vr) (w : World) (h : VarsAt w A L) (hl : L.length ≤ 100) :
    Calls Tryz.prog 110 #[.slice A L.length c] w (RowPost L 141 w) := by
  have H := Lib.hid h
  clear h
  have hnil := fun W => eq_nil vt A L.length c W
  rcases A with _ | ad
  · obtain rfl := H.out.nil_
    clear hnil
    have hnil := fun W => eq_nil vt none 0 c W
    go_enter Tryz.func110, Tryz.ntmps110
    go_wp2
    go_ret
    exact ⟨_, rfl, own_nil _ _ _, Below.refl _ _⟩
  · go_enter Tryz.func110, Tryz.ntmps110
    go_wp2_with (at_builtin; refine append_vars vt rfl _ _ rfl rfl (own_empty w 141 rfl (Nat.le_refl _)) _ _ L rfl rfl (H.out.alloc _) ?c1 ?c2 ?_)
    case c1 => simp; omega
    case c2 => simp
    intro v' w1 ho1 hb1 hs1
    have HO1 := Lib.hid ho1
    have HB1 := Lib.hid ((below_new w (.cells #[] 141)).trans hb1)
    clear ho1 hb1
    go_wp2
    go_ret
    exact ⟨_, rfl, HO1.out, HB1.out⟩
set_option maxHeartbeats 1000000 in
theorem with_row (A : Option Addr) (c x : Nat) (L : List Vr) (v : Vr) (w : World) (h : VarsAt w A L) (hl : L.length ≤ 100) (hc : L.length ≤ c) (hm : c ≤ maxLen) (hx : x < L.length) (hv : v.ok) :
    Calls Tryz.prog 141 #[.slice A L.length c, .int .i64 (x : Nat), .agg (varA v)] w (RowPost (L.set x v) 73 w) := by
  have H := Lib.hid h
  have HV := Lib.hid hv
  clear h hv
  unfold maxLen at hm
  obtain ⟨ad, rfl⟩ : ∃ ad, A = some ad := by obtain ⟨ad, e, _⟩ := H.out.cell (by omega); exact ⟨ad, e⟩
  have HB0 := Lib.hid (below_new w (.cells (varA v) 73))
  have HX := Lib.hid (varAt_new w v 73)
  unfold varA at *
  go_enter Tryz.func141, Tryz.ntmps141
  go_wp2_with (at_builtin; refine append_vars rvt rfl _ _ rfl rfl (own_empty _ 73 (size_new _ _) (Nat.le_refl _)) _ _ (L.take x) (by simp; omega) rfl (((H.out.take x).alloc _).alloc _) ?c1 ?c2 ?_)
  case c1 => simp; omega
  case c2 => simp
  intro v' w1 ho1 hb1 hs1
  have HO1 := Lib.hid ho1
  have HB1 := Lib.hid ((((Below.refl (w.heap.size + 1) _).alloc (by rw [size_new]; exact Nat.le_refl _) _).trans hb1))
  have HX1 := HX.out.below HB1.out (by simp)
  have c0 := HX1.c0
  have c1 := HX1.c1
  have c2 := HX1.c2
  have c3 := HX1.c3
  have c4 := HX1.c4
  clear ho1 hb1 HX1
  try rw [size_new] at hs1
  try rw [size_new] at hs1
  go_wp2_with (at_builtin; refine append_vars rvt rfl _ _ rfl rfl (HO1.out.alloc _) _ _ [v] rfl rfl (new_vars w1 v _ HV.out) ?c1 ?c2 ?_)
  case c1 => simp; omega
  case c2 => simp; omega
  intro v2 w2 ho2 hb2 hs2
  have HO2 := Lib.hid ho2
  have HB2 := Lib.hid (HB1.out.trans (((Below.refl _ _).alloc (by omega) _).trans hb2))
  clear ho2 hb2
  try rw [size_new] at hs2
  have HBW := Lib.hid (HB0.out.trans (HB2.out.mono (Nat.le_succ _)))
  have HE := Lib.hid (List.set_eq_take_append_cons_drop (l := L) (i := x) (a := v))
  have HL := Lib.hid hl
  by_cases hcx : c = x + 1
  · have h0 : L.drop (x + 1) = [] := List.drop_of_length_le (by omega)
    have H0 := Lib.hid h0
    clear h0
    have hlen : L.length - (x + 1) = 0 := by omega
    go_wp2_with (at_builtin; refine append_vars rvt rfl _ _ rfl rfl HO2.out _ _ [] (by simp) rfl (VarsAt.none_ _ _) ?c1 ?c2 ?_)
    case c1 => simp; omega
    case c2 => omega
    intro v3 w3 ho3 hb3 hs3
    have HO3 := Lib.hid ho3
    have HB3 := Lib.hid (HBW.out.trans (hb3.mono (Nat.le_succ _)))
    clear ho3 hb3
    go_wp2
    go_ret
    refine ⟨_, rfl, ?_, HB3.out⟩
    rw [HE.out, if_pos hx, H0.out]
    have := HO3.out.mono (Nat.le_succ w.heap.size)
    simpa using this
  · go_wp2_with (at_builtin; refine append_vars rvt rfl _ _ rfl rfl HO2.out _ _ (L.drop (x + 1)) (by simp) rfl ((H.out.drop (x + 1)).below HBW.out (Nat.le_refl _)) ?c1 ?c2 ?_)
    case c1 => simp; omega
    case c2 => omega
    intro v3 w3 ho3 hb3 hs3
    have HO3 := Lib.hid ho3
    have HB3 := Lib.hid (HBW.out.trans (hb3.mono (Nat.le_succ _)))
    clear ho3 hb3
    go_wp2
    go_ret
    refine ⟨_, rfl, ?_, HB3.out⟩
    rw [HE.out, if_pos hx]
    have := HO3.out.mono (Nat.le_succ w.heap.size)
    simpa using this
end Go.Proofs.YtfdfiiocccafkaaGreatDoor.Sx
namespace Go.Proofs.YtfdfiiocccafkaaGreatDoor.Sx
open Go.RowKit St
theorem shas_any (A : Option Addr) (n c : Nat) (x : Int) (w : World) :
    Calls Tryz.prog 105 #[.slice A n c, .int .i64 x] w fun e w' => e = .returned (.bool (decide (0 ≤ x ∧ x < (n : Int)))) ∧ w = w' := by
  by_cases h0 : 0 ≤ x
  · go_enter Tryz.func105, Tryz.ntmps105
    go_wp2
    go_ret
    exact ⟨ret_bool (by rw [Bool.eq_iff_iff]; simp [h0]), rfl⟩
  · have hd : decide (0 ≤ x) = false := by simpa using h0
    have HD := Lib.hid (show decide (0 ≤ x ∧ x < (n : Int)) = false from decide_eq_false (fun h => h0 h.1))
    go_enter Tryz.func105, Tryz.ntmps105
    go_wp2
    go_ret
    exact ⟨ret_bool (by simp), rfl⟩
theorem has_yes (A : Option Addr) (c : Nat) {L : List Vr} {x : Int} (w : World) (h : has L x) :
    Calls Tryz.prog 105 #[.slice A L.length c, .int .i64 x] w fun e w' => e = .returned (.bool true) ∧ w = w' := by
  have := shas_any A L.length c x w
  rwa [decide_eq_true (show 0 ≤ x ∧ x < (L.length : Int) from h)] at this
theorem has_no (A : Option Addr) (c : Nat) {L : List Vr} {x : Int} (w : World) (h : ¬ has L x) :
    Calls Tryz.prog 105 #[.slice A L.length c, .int .i64 x] w fun e w' => e = .returned (.bool false) ∧ w = w' := by
  have := shas_any A L.length c x w
  rwa [decide_eq_false (show ¬ (0 ≤ x ∧ x < (L.length : Int)) from h)] at this
theorem slot_any (s : Int) (w : World) :
    Calls Tryz.prog 109 #[.int .i64 s] w fun e w' => e = .returned (.bool (decide (slot s))) ∧ w = w' := by
  unfold slot
  by_cases h0 : 0 ≤ s
  · go_enter Tryz.func109, Tryz.ntmps109
    go_wp2
    go_ret
    exact ⟨ret_bool (by rw [Bool.eq_iff_iff]; simp [h0]), rfl⟩
  · have hd : decide (0 ≤ s) = false := by simpa using h0
    have HD := Lib.hid (show decide (0 ≤ s ∧ s < 32) = false from decide_eq_false (fun h => h0 h.1))
    go_enter Tryz.func109, Tryz.ntmps109
    go_wp2
    go_ret
    exact ⟨ret_bool HD.out.symm, rfl⟩
theorem slot_yes {s : Int} (w : World) (h : slot s) : Calls Tryz.prog 109 #[.int .i64 s] w fun e w' => e = .returned (.bool true) ∧ w = w' := by
  have := slot_any s w
  rwa [decide_eq_true h] at this
theorem slot_no {s : Int} (w : World) (h : ¬ slot s) : Calls Tryz.prog 109 #[.int .i64 s] w fun e w' => e = .returned (.bool false) ∧ w = w' := by
  have := slot_any s w
  rwa [decide_eq_false h] at this
theorem var_size : (Tryz.prog.info? 141).map (·.size) = some 5 := by kernel_rfl
theorem rvar_size : (Tryz.prog.info? 73).map (·.size) = some 5 := by kernel_rfl
theorem results_var {fn : Func} {p u : Tmp} {ty : TypeId} (h : fn.results = #[.cell p ty, .tmp u]) (tmps : Array Value) (w : World) (b : Nat) (t : TypeId) (v : Vr) (fs : _) (x : Value) (hp : tmps.getD p undef = .pointer (some ⟨b, 0, none⟩)) (hx : tmps.getD u undef = x) (hv : VarAt w b t v)
    (hu : Tryz.prog.underlying ty = some (.struct fs)) (hi : (Tryz.prog.info? ty).map (·.size) = some 5) : (results fn tmps).run Tryz.prog w = .ok (.tuple #[.agg (varA v), x]) w := by
  rw [results_cell_tmp h, hp, hx]
  simp [asAddr, Result.andThen, run_loadVar_row w b t ty _ (0, 0) _ hv.is hu rfl hi]
/-- a variable is stored into its block, cell by cell. -/
def putB (w : World) (b : Nat) (v : Vr) : World := ((((w.setCell ⟨b, 0, none⟩ (.int .i64 v.k)).setCell ⟨b, 1, none⟩ (.int .i64 v.n)).setCell ⟨b, 2, none⟩ (.int .i64 v.ver)).setCell ⟨b, 3, none⟩ (.int .i64 v.wr)).setCell ⟨b, 4, none⟩ (.int .u64 (v.m : Nat))
theorem VarAt.put {w : World} {b : Nat} {t : TypeId} {v : Vr} (h : VarAt w b t v) (v' : Vr) : VarAt (putB w b v') b t v' := by
  constructor
  have := h.is
  simp [putB, varA, World.setCell, Array.getElem?_modify, this]
theorem below_putB {w : World} {B b : Nat} {a : World} (h : Below B a w) (hb : B ≤ b) (v : Vr) : Below B a (putB w b v) := ((((h.setCell hb _).setCell hb _).setCell hb _).setCell hb _).setCell hb _
/-- a new block of nought. -/
def new0 (w : World) (t : TypeId) : World := w.alloc (.cells #[.int .i64 0, .int .i64 0, .int .i64 0, .int .i64 0, .int .u64 0] t)
theorem new0_at (w : World) (t : TypeId) : VarAt (new0 w t) w.heap.size t zero := varAt_new w zero t
theorem new0_below (w : World) (t : TypeId) : Below w.heap.size w (new0 w t) := below_new w _
def putZ (w : World) (b : Nat) : World := ((((w.setCell ⟨b, 0, none⟩ (.int .i64 0)).setCell ⟨b, 1, none⟩ (.int .i64 0)).setCell ⟨b, 2, none⟩ (.int .i64 0)).setCell ⟨b, 3, none⟩ (.int .i64 0)).setCell ⟨b, 4, none⟩ (.int .u64 0)
theorem putZ_eq (w : World) (b : Nat) : putZ w b = putB w b zero := rfl
def getR (L : List Vr) (x : Int) : Value := .tuple #[.agg (varA (getV L x)), .int .i64 (getE L x)]
theorem getR_yes {L : List Vr} {x : Int} (h : has L x) : getR L x = .tuple #[.agg (varA (at_ L x)), .int .i64 0] := by unfold getR getV getE; rw [if_pos h, if_pos h]
theorem getR_no {L : List Vr} {x : Int} (h : ¬ has L x) : getR L x = .tuple #[.agg #[.int .i64 0, .int .i64 0, .int .i64 0, .int .i64 0, .int .u64 0], .int .i64 3] := by unfold getR getV getE; rw [if_neg h, if_neg h]; rfl
set_option maxHeartbeats 1000000 in
theorem get_any (A : Option Addr) (c : Nat) (L : List Vr) (x : Int) (w : World) (h : VarsAt w A L) :
    Calls Tryz.prog 63 #[.slice A L.length c, .int .i64 x] w fun e w' => e = .returned (getR L x) ∧ Below w.heap.size w w' := by
  have H := Lib.hid h
  clear h
  have HV := Lib.hid (new0_at w 141)
  have HB := Lib.hid (new0_below w 141)
  by_cases hx : has L x
  · have HX := Lib.hid hx
    obtain ⟨j, rfl⟩ := Int.eq_ofNat_of_zero_le hx.1
    have hj : j < L.length := by have := hx.2; omega
    obtain ⟨ad, v, rfl, hv, hok, h5⟩ := (H.out.below HB.out (Nat.le_refl _)).at_ hj
    obtain ⟨c0, c1, c2, c3, c4⟩ := h5
    have hat : at_ L (j : Nat) = v := by have := at_mem hx; rw [Int.toNat_natCast, hv] at this; exact (Option.some.inj this).symm
    rw [getR_yes hx, hat]
    have HP := Lib.hid (varAt_new w v 141)
    have HPB := Lib.hid (below_new w (.cells (varA v) 141))
    clear hv hok hx hat
    unfold varA new0 at *
    go_enter Tryz.func63, Tryz.ntmps63
    go_wp2_with (go_at_call 105; refine (has_yes _ _ _ HX.out).mono ?_; rintro e w' ⟨rfl, rfl⟩)
    exact bodyPost_ret (results_var rfl _ _ w.heap.size 141 v _ _ rfl rfl HP.out Tryz.underlying141 var_size) rfl ⟨rfl, HPB.out⟩
  · have HX := Lib.hid hx
    rw [getR_no hx]
    clear hx
    unfold new0 at *
    go_enter Tryz.func63, Tryz.ntmps63
    go_wp2_with (go_at_call 105; refine (has_no _ _ _ HX.out).mono ?_; rintro e w' ⟨rfl, rfl⟩)
    exact bodyPost_ret (results_var rfl _ _ w.heap.size 141 zero _ _ rfl rfl HV.out Tryz.underlying141 var_size) rfl ⟨rfl, HB.out⟩
set_option maxHeartbeats 1000000 in
theorem rget_any (A : Option Addr) (c : Nat) (L : List Vr) (x : Int) (w : World) (h : VarsAt w A L) :
    Calls Tryz.prog 90 #[.slice A L.length c, .int .i64 x] w fun e w' => e = .returned (getR L x) ∧ Below w.heap.size w w' := by
  have H := Lib.hid h
  clear h
  have HV := Lib.hid (new0_at w 73)
  have HB := Lib.hid (new0_below w 73)
  by_cases hx : has L x
  · have HX := Lib.hid hx
    obtain ⟨j, rfl⟩ := Int.eq_ofNat_of_zero_le hx.1
    have hj : j < L.length := by have := hx.2; omega
    obtain ⟨ad, v, rfl, hv, hok, h5⟩ := (H.out.below HB.out (Nat.le_refl _)).at_ hj
    obtain ⟨c0, c1, c2, c3, c4⟩ := h5
    have hat : at_ L (j : Nat) = v := by have := at_mem hx; rw [Int.toNat_natCast, hv] at this; exact (Option.some.inj this).symm
    rw [getR_yes hx, hat]
    have HP := Lib.hid (varAt_new w v 73)
    have HPB := Lib.hid (below_new w (.cells (varA v) 73))
    clear hv hok hx hat
    unfold varA new0 at *
    have h1 : ¬ ((j : Int) < 0) := by omega
    have h2 : ¬ ((L.length : Int) ≤ (j : Int)) := by omega
    go_enter Tryz.func90, Tryz.ntmps90
    go_wp2
    exact bodyPost_ret (results_var rfl _ _ w.heap.size 73 v _ _ rfl rfl HP.out Tryz.underlying73 rvar_size) rfl ⟨rfl, HPB.out⟩
  · rw [getR_no hx]
    unfold new0 at *
    by_cases hn : x < 0
    · have hd : decide (x < 0) = true := by simpa using hn
      clear hx
      go_enter Tryz.func90, Tryz.ntmps90
      go_wp2
      exact bodyPost_ret (results_var rfl _ _ w.heap.size 73 zero _ _ rfl rfl HV.out Tryz.underlying73 rvar_size) rfl ⟨rfl, HB.out⟩
    · have hd : decide (x < 0) = false := by simpa using hn
      have hg : (L.length : Int) ≤ x := by unfold has at hx; omega
      clear hx
      go_enter Tryz.func90, Tryz.ntmps90
      go_wp2
      exact bodyPost_ret (results_var rfl _ _ w.heap.size 73 zero _ _ rfl rfl HV.out Tryz.underlying73 rvar_size) rfl ⟨rfl, HB.out⟩
set_option maxHeartbeats 1000000 in
theorem right_any (k n : Int) (w : World) :
    Calls Tryz.prog 113 #[.agg #[.int .i64 k, .int .i64 n]] w fun e w' => e = .returned (.bool (right k n)) ∧ Below w.heap.size w w' := by
  unfold right
  by_cases h0 : k = 0
  · subst h0
    go_enter Tryz.func113, Tryz.ntmps113
    go_wp2
    go_ret
    exact ⟨rfl, below_new _ _⟩
  by_cases h1 : k = 1
  · subst h1
    go_enter Tryz.func113, Tryz.ntmps113
    go_wp2
    go_ret
    exact ⟨rfl, below_new _ _⟩
  by_cases h2 : k = 2
  · subst h2
    by_cases hn : 0 ≤ n
    · have hd : decide (0 ≤ n) = true := by simpa using hn
      go_enter Tryz.func113, Tryz.ntmps113
      go_wp2
      go_ret
      exact ⟨rfl, below_new _ _⟩
    · have hd : decide (0 ≤ n) = false := by simpa using hn
      go_enter Tryz.func113, Tryz.ntmps113
      go_wp2
      go_ret
      exact ⟨rfl, below_new _ _⟩
  · go_enter Tryz.func113, Tryz.ntmps113
    go_wp2
    go_ret
    exact ⟨rfl, below_new _ _⟩
set_option maxHeartbeats 1000000 in
theorem rright_any (k n : Int) (w : World) :
    Calls Tryz.prog 142 #[.agg #[.int .i64 k, .int .i64 n]] w fun e w' => e = .returned (.bool (right k n)) ∧ Below w.heap.size w w' := by
  unfold right
  by_cases h0 : k = 0
  · subst h0
    go_enter Tryz.func142, Tryz.ntmps142
    go_wp2
    go_ret
    exact ⟨rfl, below_new _ _⟩
  by_cases h1 : k = 1
  · subst h1
    go_enter Tryz.func142, Tryz.ntmps142
    go_wp2
    go_ret
    exact ⟨rfl, below_new _ _⟩
  by_cases h2 : k = 2
  · subst h2
    by_cases hn : 0 ≤ n
    · have hd : decide (0 ≤ n) = true := by simpa using hn
      go_enter Tryz.func142, Tryz.ntmps142
      go_wp2
      go_ret
      exact ⟨rfl, below_new _ _⟩
    · have hd : decide (0 ≤ n) = false := by simpa using hn
      go_enter Tryz.func142, Tryz.ntmps142
      go_wp2
      go_ret
      exact ⟨rfl, below_new _ _⟩
  · go_enter Tryz.func142, Tryz.ntmps142
    go_wp2
    go_ret
    exact ⟨rfl, below_new _ _⟩
theorem right_val (k n : Int) (b : Bool) (w : World) (h : right k n = b) :
    Calls Tryz.prog 113 #[.agg #[.int .i64 k, .int .i64 n]] w fun e w' => e = .returned (.bool b) ∧ Below w.heap.size w w' := by
  have := right_any k n w
  rwa [h] at this
theorem rright_val (k n : Int) (b : Bool) (w : World) (h : right k n = b) :
    Calls Tryz.prog 142 #[.agg #[.int .i64 k, .int .i64 n]] w fun e w' => e = .returned (.bool b) ∧ Below w.heap.size w w' := by
  have := rright_any k n w
  rwa [h] at this
end Go.Proofs.YtfdfiiocccafkaaGreatDoor.Sx
namespace Go.Proofs.YtfdfiiocccafkaaGreatDoor.Sx
open Go.RowKit St
/-- a store and an error. -/
def StorePost (L : List Vr) (er : Int) (w : World) (e : Ending) (w' : World) : Prop := ∃ A c, e = .returned (.tuple #[.slice A L.length c, .int .i64 er]) ∧ VarsAt w' A L ∧ Below w.heap.size w w'
theorem storePost_own {w w' : World} {L : List Vr} {er : Int} {g cap len base : Nat} {e : TypeId} (hlen : len = L.length) (ho : OwnVars w' base e (.slice (some ⟨g, 0, none⟩) len cap) L) (hb : Below w.heap.size w w') :
    StorePost L er w (.returned (.tuple #[.slice (some ⟨g, 0, none⟩) len cap, .int .i64 er])) w' := by
  subst hlen
  obtain ⟨A', c', e1, h1, h2, h3⟩ := ho.slice
  injection e1 with e1 _ e2
  subst e1; subst e2
  exact ⟨_, _, rfl, h3, hb⟩
/-- a new store. -/
def StoreNew (L : List Vr) (w : World) (e : Ending) (w' : World) : Prop := ∃ A c, e = .returned (.tuple #[.slice A L.length c, .int .i64 0]) ∧ VarsAt w' A L ∧ Below w.heap.size w w' ∧ Fr w.heap.size A
theorem StoreNew.post {L : List Vr} {w : World} {e : Ending} {w' : World} (h : StoreNew L w e w') : StorePost L 0 w e w' := by
  obtain ⟨A, c, h1, h2, h3, _⟩ := h
  exact ⟨A, c, h1, h2, h3⟩
theorem storeNew_own {w w' : World} {L : List Vr} {g cap len base : Nat} {e : TypeId} (hlen : len = L.length) (ho : OwnVars w' base e (.slice (some ⟨g, 0, none⟩) len cap) L) (hb : Below w.heap.size w w') (hg : w.heap.size ≤ g) :
    StoreNew L w (.returned (.tuple #[.slice (some ⟨g, 0, none⟩) len cap, .int .i64 0])) w' := by
  subst hlen
  obtain ⟨A', c', e1, _, _, h3⟩ := ho.slice
  have ha := (Value.slice.inj e1).1
  exact ⟨_, _, rfl, by rw [ha]; exact h3, hb, fun ad e => by cases e; exact hg⟩
theorem putE_no {L : List Vr} {x k n wr : Int} (h : ¬ has L x) : putE L x k n wr = 3 := by unfold putE; rw [if_neg h]
theorem putE_arg {L : List Vr} {x k n wr : Int} (h : has L x) (h2 : ¬ (right k n = true ∧ (wr = -1 ∨ slot wr))) : putE L x k n wr = 2 := by unfold putE; rw [if_pos h, if_neg h2]
theorem putE_ok {L : List Vr} {x k n wr : Int} (h : has L x) (h2 : right k n = true ∧ (wr = -1 ∨ slot wr)) : putE L x k n wr = 0 := by unfold putE; rw [if_pos h, if_pos h2]
theorem putL_no {L : List Vr} {x k n ver wr : Int} (h : ¬ has L x) : putL L x k n ver wr = L := by unfold putL; rw [putE_no h, if_neg (by decide)]
theorem putL_arg {L : List Vr} {x k n ver wr : Int} (h : has L x) (h2 : ¬ (right k n = true ∧ (wr = -1 ∨ slot wr))) : putL L x k n ver wr = L := by unfold putL; rw [putE_arg h h2, if_neg (by decide)]
theorem putL_ok {L : List Vr} {x k n ver wr : Int} (h : has L x) (h2 : right k n = true ∧ (wr = -1 ∨ slot wr)) : putL L x k n ver wr = L.set x.toNat ⟨k, n, ver, wr, 0⟩ := by unfold putL; rw [putE_ok h h2, if_pos rfl]
/-- the whole of a variable in a row of the call's own. -/
def put5 (w : World) (b o : Nat) (k n ver wr : Int) : World := ((((w.setCell ⟨b, o, none⟩ (.int .i64 k)).setCell ⟨b, o + 1, none⟩ (.int .i64 n)).setCell ⟨b, o + 2, none⟩ (.int .i64 ver)).setCell ⟨b, o + 3, none⟩ (.int .i64 wr)).setCell ⟨b, o + 4, none⟩ (.int .u64 0)
theorem below_put5 {w : World} {B b o : Nat} {a : World} (h : Below B a w) (hb : B ≤ b) (k n ver wr : Int) : Below B a (put5 w b o k n ver wr) := ((((h.setCell hb _).setCell hb _).setCell hb _).setCell hb _).setCell hb _
theorem OwnVars.put5 {w : World} {base g cap : Nat} {e : TypeId} {L : List Vr} (h : OwnVars w base e (.slice (some ⟨g, 0, none⟩) L.length cap) L) {j : Nat} (hj : j < L.length) {k n ver wr : Int} (hk : i64p k) (hn : i64p n) (hv : i64p ver) (hw : i64p wr) :
    OwnVars (put5 w g (j * 5) k n ver wr) base e (.slice (some ⟨g, 0, none⟩) L.length cap) (L.set j ⟨k, n, ver, wr, 0⟩) := by
  have h0 := List.getElem?_eq_getElem hj
  have hok := h.ok _ (List.getElem_mem hj)
  generalize L[j] = v at h0 hok
  have s1 := h.put h0 (v' := ⟨k, v.n, v.ver, v.wr, v.m⟩) 0 (by decide) (.int .i64 k) rfl ⟨hk, hok.2⟩
  have s2 := s1.put (j := j) (List.getElem?_set_self hj) (v' := ⟨k, n, v.ver, v.wr, v.m⟩) 1 (by decide) (.int .i64 n) rfl ⟨hk, hn, hok.2.2⟩
  rw [List.set_set] at s2
  have s3 := s2.put (j := j) (List.getElem?_set_self hj) (v' := ⟨k, n, ver, v.wr, v.m⟩) 2 (by decide) (.int .i64 ver) rfl ⟨hk, hn, hv, hok.2.2.2⟩
  rw [List.set_set] at s3
  have s4 := s3.put (j := j) (List.getElem?_set_self hj) (v' := ⟨k, n, ver, wr, v.m⟩) 3 (by decide) (.int .i64 wr) rfl ⟨hk, hn, hv, hw, hok.2.2.2.2⟩
  rw [List.set_set] at s4
  have s5 := s4.put (j := j) (List.getElem?_set_self hj) (v' := ⟨k, n, ver, wr, 0⟩) 4 (by decide) (.int .u64 0) rfl ⟨hk, hn, hv, hw, Nat.zero_lt_succ _⟩
  rw [List.set_set, List.length_set] at s5
  exact s5
/-- a value in its box. -/
structure BoxAt (w : World) (b : Nat) (k n : Int) : Prop where
  c0 : w.cell? ⟨b, 0, none⟩ = some (.int .i64 k)
  c1 : w.cell? ⟨b, 1, none⟩ = some (.int .i64 n)
theorem boxAt_new (w : World) (k n : Int) (t : TypeId) : BoxAt (w.alloc (.cells #[.int .i64 k, .int .i64 n] t)) w.heap.size k n :=
  ⟨cell_of_row _ _ 0 _ t (0, 0) (heap_alloc_new w _), cell_of_row _ _ 1 _ t (0, 0) (heap_alloc_new w _)⟩
theorem BoxAt.below {w w' : World} {b : Nat} {k n : Int} (h : BoxAt w b k n) (hb : Below w.heap.size w w') : BoxAt w' b k n :=
  ⟨(hb.cell (cell_lt h.c0)).trans h.c0, (hb.cell (cell_lt h.c1)).trans h.c1⟩
set_option maxHeartbeats 1000000 in
theorem put_no (A : Option Addr) (c : Nat) (L : List Vr) (x k n ver wr : Int) (w : World) (h : VarsAt w A L) (hx : ¬ has L x) :
    Calls Tryz.prog 72 #[.slice A L.length c, .int .i64 x, .agg #[.int .i64 k, .int .i64 n], .int .i64 ver, .int .i64 wr] w (StorePost L 3 w) := by
  have H := Lib.hid h
  have HX := Lib.hid hx
  clear h hx
  go_enter Tryz.func72, Tryz.ntmps72
  go_wp2_with (go_at_call 105; refine (has_no _ _ _ HX.out).mono ?_; rintro e w' ⟨rfl, rfl⟩)
  go_ret2
  exact ⟨_, _, rfl, H.out.alloc _, below_new _ _⟩
set_option maxHeartbeats 1000000 in
theorem put_wrong (A : Option Addr) (c : Nat) (L : List Vr) (x k n ver wr : Int) (w : World) (h : VarsAt w A L) (hx : has L x) (hr : right k n = false) :
    Calls Tryz.prog 72 #[.slice A L.length c, .int .i64 x, .agg #[.int .i64 k, .int .i64 n], .int .i64 ver, .int .i64 wr] w (StorePost L 2 w) := by
  have H := Lib.hid h
  have HX := Lib.hid hx
  have HR := Lib.hid hr
  clear h hx hr
  go_enter Tryz.func72, Tryz.ntmps72
  go_wp2_with (go_at_call 105; refine (has_yes _ _ _ HX.out).mono ?_; rintro e w' ⟨rfl, rfl⟩)
  refine (right_val _ _ _ _ HR.out).mono ?_
  rintro e w1 ⟨rfl, hb1⟩
  have HB1 := Lib.hid hb1
  clear hb1
  go_wp2
  go_ret2
  exact ⟨_, _, rfl, (H.out.alloc _).below HB1.out (Nat.le_refl _), (below_new _ _).trans (HB1.out.mono (by simp))⟩
set_option maxHeartbeats 1000000 in
theorem put_slot (A : Option Addr) (c : Nat) (L : List Vr) (x k n ver wr : Int) (w : World) (h : VarsAt w A L) (hx : has L x) (hr : right k n = true) (h1 : wr ≠ -1) (hs : ¬ slot wr) :
    Calls Tryz.prog 72 #[.slice A L.length c, .int .i64 x, .agg #[.int .i64 k, .int .i64 n], .int .i64 ver, .int .i64 wr] w (StorePost L 2 w) := by
  have H := Lib.hid h
  have HX := Lib.hid hx
  have HR := Lib.hid hr
  have HS := Lib.hid hs
  have hd : ¬ wr = -1 := h1
  clear h hx hr hs h1
  go_enter Tryz.func72, Tryz.ntmps72
  go_wp2_with (go_at_call 105; refine (has_yes _ _ _ HX.out).mono ?_; rintro e w' ⟨rfl, rfl⟩)
  refine (right_val _ _ _ _ HR.out).mono ?_
  rintro e w1 ⟨rfl, hb1⟩
  have HB1 := Lib.hid hb1
  clear hb1
  go_wp2_with (go_at_call 109; refine (slot_no _ HS.out).mono ?_; rintro e w' ⟨rfl, rfl⟩)
  go_ret2
  exact ⟨_, _, rfl, (H.out.alloc _).below HB1.out (Nat.le_refl _), (below_new _ _).trans (HB1.out.mono (by simp))⟩
set_option maxHeartbeats 1000000 in
theorem put_new (A : Option Addr) (c j : Nat) (L : List Vr) (k n ver wr : Int) (w : World) (h : VarsAt w A L) (hl : L.length ≤ 100) (hj : j < L.length) (hr : right k n = true) (hs : slot wr) (hk : i64p k) (hn : i64p n) (hv : i64p ver) (hw : i64p wr) :
    Calls Tryz.prog 72 #[.slice A L.length c, .int .i64 (j : Nat), .agg #[.int .i64 k, .int .i64 n], .int .i64 ver, .int .i64 wr] w (StoreNew (L.set j ⟨k, n, ver, wr, 0⟩) w) := by
  have H := Lib.hid h
  have HX := Lib.hid (show has L (j : Nat) from ⟨by omega, by omega⟩)
  have HR := Lib.hid hr
  have HS := Lib.hid hs
  have hd : ¬ wr = -1 := by have := hs.1; omega
  have HI := Lib.hid (show i64p k ∧ i64p n ∧ i64p ver ∧ i64p wr from ⟨hk, hn, hv, hw⟩)
  have HBX := Lib.hid (boxAt_new w k n 71)
  clear h hr hs hk hn hv hw
  go_enter Tryz.func72, Tryz.ntmps72
  go_wp2_with (go_at_call 105; refine (has_yes _ _ _ HX.out).mono ?_; rintro e w' ⟨rfl, rfl⟩)
  refine (right_val _ _ _ _ HR.out).mono ?_
  rintro e w1 ⟨rfl, hb1⟩
  have HB1 := Lib.hid hb1
  clear hb1
  go_wp2_with (go_at_call 109; refine (slot_yes _ HS.out).mono ?_; rintro e w' ⟨rfl, rfl⟩)
  refine (clone_any _ _ _ _ ((H.out.alloc _).below HB1.out (Nat.le_refl _)) hl).mono ?_
  rintro e w2 ⟨v, rfl, ho, hb2⟩
  obtain ⟨g, cap, rfl, hg, hlt⟩ := ho.open_ (by omega)
  have HO := Lib.hid ho
  have HB2 := Lib.hid (HB1.out.trans (hb2.mono HB1.out.size))
  obtain ⟨b0, b1⟩ := HBX.out.below HB2.out
  have e0 := List.getElem?_eq_getElem hj
  have c0 := ho.get0 e0
  have c1 := ho.get e0 1 (by decide)
  have c2 := ho.get e0 2 (by decide)
  have c3 := ho.get e0 3 (by decide)
  have c4 := ho.get e0 4 (by decide)
  simp only [cellsOf, List.getElem?_cons_succ, List.getElem?_cons_zero] at c1 c2 c3 c4
  have f := ho.free
  clear ho hb2 e0
  have HP := Lib.hid (HO.out.put5 hj HI.out.1 HI.out.2.1 HI.out.2.2.1 HI.out.2.2.2)
  have HG := Lib.hid (show w.heap.size ≤ g by have := HB1.out.size; rw [size_new] at this; omega)
  have HPB := Lib.hid (below_put5 ((below_new w (.cells #[.int .i64 k, .int .i64 n] 71)).trans (HB2.out.mono (by simp))) (show w.heap.size ≤ g by have := HB1.out.size; rw [size_new] at this; omega) k n ver wr (o := j * 5))
  unfold put5 at HP HPB
  go_wp2
  go_ret2
  exact storeNew_own (List.length_set ..).symm HP.out HPB.out HG.out
theorem put_yes (A : Option Addr) (c j : Nat) (L : List Vr) (k n ver wr : Int) (w : World) (h : VarsAt w A L) (hl : L.length ≤ 100) (hj : j < L.length) (hr : right k n = true) (hs : slot wr) (hk : i64p k) (hn : i64p n) (hv : i64p ver) (hw : i64p wr) :
    Calls Tryz.prog 72 #[.slice A L.length c, .int .i64 (j : Nat), .agg #[.int .i64 k, .int .i64 n], .int .i64 ver, .int .i64 wr] w (StorePost (L.set j ⟨k, n, ver, wr, 0⟩) 0 w) :=
  (put_new A c j L k n ver wr w h hl hj hr hs hk hn hv hw).mono fun _ _ h => h.post
set_option maxHeartbeats 1000000 in
theorem put_nobody (A : Option Addr) (c j : Nat) (L : List Vr) (k n ver : Int) (w : World) (h : VarsAt w A L) (hl : L.length ≤ 100) (hj : j < L.length) (hr : right k n = true) (hk : i64p k) (hn : i64p n) (hv : i64p ver) :
    Calls Tryz.prog 72 #[.slice A L.length c, .int .i64 (j : Nat), .agg #[.int .i64 k, .int .i64 n], .int .i64 ver, .int .i64 (-1)] w (StorePost (L.set j ⟨k, n, ver, -1, 0⟩) 0 w) := by
  have H := Lib.hid h
  have HX := Lib.hid (show has L (j : Nat) from ⟨by omega, by omega⟩)
  have HR := Lib.hid hr
  have HI := Lib.hid (show i64p k ∧ i64p n ∧ i64p ver ∧ i64p (-1) from ⟨hk, hn, hv, by unfold i64p; omega⟩)
  have HBX := Lib.hid (boxAt_new w k n 71)
  clear h hr hk hn hv
  go_enter Tryz.func72, Tryz.ntmps72
  go_wp2_with (go_at_call 105; refine (has_yes _ _ _ HX.out).mono ?_; rintro e w' ⟨rfl, rfl⟩)
  refine (right_val _ _ _ _ HR.out).mono ?_
  rintro e w1 ⟨rfl, hb1⟩
  have HB1 := Lib.hid hb1
  clear hb1
  go_wp2_with fail
  refine (clone_any _ _ _ _ ((H.out.alloc _).below HB1.out (Nat.le_refl _)) hl).mono ?_
  rintro e w2 ⟨v, rfl, ho, hb2⟩
  obtain ⟨g, cap, rfl, hg, hlt⟩ := ho.open_ (by omega)
  have HO := Lib.hid ho
  have HB2 := Lib.hid (HB1.out.trans (hb2.mono HB1.out.size))
  obtain ⟨b0, b1⟩ := HBX.out.below HB2.out
  have e0 := List.getElem?_eq_getElem hj
  have c0 := ho.get0 e0
  have c1 := ho.get e0 1 (by decide)
  have c2 := ho.get e0 2 (by decide)
  have c3 := ho.get e0 3 (by decide)
  have c4 := ho.get e0 4 (by decide)
  simp only [cellsOf, List.getElem?_cons_succ, List.getElem?_cons_zero] at c1 c2 c3 c4
  have f := ho.free
  clear ho hb2 e0
  have HP := Lib.hid (HO.out.put5 hj HI.out.1 HI.out.2.1 HI.out.2.2.1 HI.out.2.2.2)
  have HPB := Lib.hid (below_put5 ((below_new w (.cells #[.int .i64 k, .int .i64 n] 71)).trans (HB2.out.mono (by simp))) (show w.heap.size ≤ g by have := HB1.out.size; rw [size_new] at this; omega) k n ver (-1) (o := j * 5))
  unfold put5 at HP HPB
  go_wp2
  go_ret2
  exact storePost_own (List.length_set ..).symm HP.out HPB.out
theorem put_any (A : Option Addr) (c : Nat) (L : List Vr) (x k n ver wr : Int) (w : World) (h : VarsAt w A L) (hl : L.length ≤ 100) (hk : i64p k) (hn : i64p n) (hv : i64p ver) (hw : i64p wr) :
    Calls Tryz.prog 72 #[.slice A L.length c, .int .i64 x, .agg #[.int .i64 k, .int .i64 n], .int .i64 ver, .int .i64 wr] w (StorePost (putL L x k n ver wr) (putE L x k n wr) w) := by
  by_cases hx : has L x
  · cases hr : right k n
    · rw [putL_arg hx (by simp [hr]), putE_arg hx (by simp [hr])]
      exact put_wrong A c L x k n ver wr w h hx hr
    · by_cases h1 : wr = -1
      · subst h1
        rw [putL_ok hx ⟨hr, .inl rfl⟩, putE_ok hx ⟨hr, .inl rfl⟩]
        obtain ⟨j, rfl⟩ := Int.eq_ofNat_of_zero_le hx.1
        exact put_nobody A c j L k n ver w h hl (by have := hx.2; omega) hr hk hn hv
      · by_cases hs : slot wr
        · rw [putL_ok hx ⟨hr, .inr hs⟩, putE_ok hx ⟨hr, .inr hs⟩]
          obtain ⟨j, rfl⟩ := Int.eq_ofNat_of_zero_le hx.1
          exact put_yes A c j L k n ver wr w h hl (by have := hx.2; omega) hr hs hk hn hv hw
        · rw [putL_arg hx (by simp [hr, h1, hs]), putE_arg hx (by simp [hr, h1, hs])]
          exact put_slot A c L x k n ver wr w h hx hr h1 hs
  · rw [putL_no hx, putE_no hx]
    exact put_no A c L x k n ver wr w h hx
theorem markE_no {L : List Vr} {x s : Int} (h : ¬ has L x) : markE L x s = 3 := by unfold markE; rw [if_neg h]
theorem markE_arg {L : List Vr} {x s : Int} (h : has L x) (h2 : ¬ slot s) : markE L x s = 2 := by unfold markE; rw [if_pos h, if_neg h2]
theorem markE_ok {L : List Vr} {x s : Int} (h : has L x) (h2 : slot s) : markE L x s = 0 := by unfold markE; rw [if_pos h, if_pos h2]
theorem markL_no {L : List Vr} {x s : Int} (h : ¬ has L x) : markL L x s = L := by unfold markL; rw [markE_no h, if_neg (by decide)]
theorem markL_arg {L : List Vr} {x s : Int} (h : has L x) (h2 : ¬ slot s) : markL L x s = L := by unfold markL; rw [markE_arg h h2, if_neg (by decide)]
theorem markL_ok {L : List Vr} {x s : Int} (h : has L x) (h2 : slot s) : markL L x s = L.set x.toNat (mk s (at_ L x)) := by unfold markL; rw [markE_ok h h2, if_pos rfl]
set_option maxHeartbeats 1000000 in
theorem mark_no (A : Option Addr) (c : Nat) (L : List Vr) (x s : Int) (w : World) (h : VarsAt w A L) (hx : ¬ has L x) :
    Calls Tryz.prog 68 #[.slice A L.length c, .int .i64 x, .int .i64 s] w (StorePost L 3 w) := by
  have H := Lib.hid h
  have HX := Lib.hid hx
  clear h hx
  go_enter Tryz.func68, Tryz.ntmps68
  go_wp2_with (go_at_call 105; refine (has_no _ _ _ HX.out).mono ?_; rintro e w' ⟨rfl, rfl⟩)
  go_ret2
  exact ⟨_, _, rfl, H.out, Below.refl _ _⟩
set_option maxHeartbeats 1000000 in
theorem mark_slot (A : Option Addr) (c : Nat) (L : List Vr) (x s : Int) (w : World) (h : VarsAt w A L) (hx : has L x) (hs : ¬ slot s) :
    Calls Tryz.prog 68 #[.slice A L.length c, .int .i64 x, .int .i64 s] w (StorePost L 2 w) := by
  have H := Lib.hid h
  have HX := Lib.hid hx
  have HS := Lib.hid hs
  clear h hx hs
  go_enter Tryz.func68, Tryz.ntmps68
  go_wp2_with (first
    | (go_at_call 105; refine (has_yes _ _ _ HX.out).mono ?_; rintro e w' ⟨rfl, rfl⟩)
    | (go_at_call 109; refine (slot_no _ HS.out).mono ?_; rintro e w' ⟨rfl, rfl⟩))
  go_ret2
  exact ⟨_, _, rfl, H.out, Below.refl _ _⟩
set_option maxHeartbeats 1000000 in
theorem mark_new (A : Option Addr) (c j : Nat) (L : List Vr) (s : Int) (v : Vr) (w : World) (h : VarsAt w A L) (hl : L.length ≤ 100) (hv : L[j]? = some v) (hs : slot s) :
    Calls Tryz.prog 68 #[.slice A L.length c, .int .i64 (j : Nat), .int .i64 s] w (StoreNew (L.set j (mk s v)) w) := by
  have H := Lib.hid h
  have hj : j < L.length := (List.getElem?_eq_some_iff.1 hv).1
  have hok := h.ok v (List.mem_of_getElem? hv)
  have HX := Lib.hid (show has L (j : Nat) from ⟨by omega, by omega⟩)
  have HS := Lib.hid hs
  have HV := Lib.hid hv
  have HK := Lib.hid hok
  have hm := hok.2.2.2.2
  have h0 := hs.1
  have h1 := hs.2
  clear h hs hv hok
  go_enter Tryz.func68, Tryz.ntmps68
  go_wp2_with (first
    | (go_at_call 105; refine (has_yes _ _ _ HX.out).mono ?_; rintro e w' ⟨rfl, rfl⟩)
    | (go_at_call 109; refine (slot_yes _ HS.out).mono ?_; rintro e w' ⟨rfl, rfl⟩))
  refine (clone_any _ _ _ _ H.out hl).mono ?_
  rintro e w2 ⟨v', rfl, ho, hb2⟩
  obtain ⟨g, cap, rfl, hg, hlt⟩ := ho.open_ (by omega)
  have HO := Lib.hid ho
  have HB2 := Lib.hid hb2
  have c4 := ho.get HV.out 4 (by decide)
  simp only [cellsOf, List.getElem?_cons_succ, List.getElem?_cons_zero] at c4
  have f := ho.free
  clear ho hb2
  have HP := Lib.hid (HO.out.put HV.out (v' := mk s v) 4 (by decide) (.int .u64 (Sm.add v.m s : Nat)) rfl (mk_ok HK.out s))
  have HG := Lib.hid hg
  have HPB := Lib.hid (HB2.out.setCell (p := ⟨g, j * 5 + 4, none⟩) hg (.int .u64 (Sm.add v.m s : Nat)))
  go_wp2_with (go_at_call 111; refine (with_any _ _ _ hm (by omega) (by omega)).mono ?_; rintro e w' ⟨rfl, rfl⟩)
  go_ret2
  have := HP.out
  rw [List.length_set] at this
  exact storeNew_own (List.length_set ..).symm this HPB.out HG.out
theorem mark_yes (A : Option Addr) (c j : Nat) (L : List Vr) (s : Int) (v : Vr) (w : World) (h : VarsAt w A L) (hl : L.length ≤ 100) (hv : L[j]? = some v) (hs : slot s) :
    Calls Tryz.prog 68 #[.slice A L.length c, .int .i64 (j : Nat), .int .i64 s] w (StorePost (L.set j (mk s v)) 0 w) :=
  (mark_new A c j L s v w h hl hv hs).mono fun _ _ h => h.post
theorem mark_any (A : Option Addr) (c : Nat) (L : List Vr) (x s : Int) (w : World) (h : VarsAt w A L) (hl : L.length ≤ 100) :
    Calls Tryz.prog 68 #[.slice A L.length c, .int .i64 x, .int .i64 s] w (StorePost (markL L x s) (markE L x s) w) := by
  by_cases hx : has L x
  · by_cases hs : slot s
    · rw [markL_ok hx hs, markE_ok hx hs]
      obtain ⟨j, rfl⟩ := Int.eq_ofNat_of_zero_le hx.1
      exact mark_yes A c j L s _ w h hl (by simpa using at_mem hx) hs
    · rw [markL_arg hx hs, markE_arg hx hs]
      exact mark_slot A c L x s w h hx hs
  · rw [markL_no hx, markE_no hx]
    exact mark_no A c L x s w h hx
end Go.Proofs.YtfdfiiocccafkaaGreatDoor.Sx
namespace Go.Proofs.YtfdfiiocccafkaaGreatDoor.Sx
open Go.RowKit St
theorem OwnVars.len_ {w : World} {base len cap : Nat} {e : TypeId} {A : Option Addr} {L : List Vr} (h : OwnVars w base e (.slice A len cap) L) : len = L.length := by
  rcases h.row.2 with ⟨e1, h0⟩ | ⟨g, cap', cur, e1, _⟩
  · injection e1; omega
  · injection e1
theorem OwnVars.some_ {w : World} {base len cap : Nat} {e : TypeId} {A : Option Addr} {L : List Vr} (h : OwnVars w base e (.slice A len cap) L) (hl : 0 < L.length) : ∃ g, A = some ⟨g, 0, none⟩ ∧ base ≤ g ∧ g < w.heap.size := by
  obtain ⟨g, cap', e1, h1, h2⟩ := h.open_ hl
  injection e1 with e1
  exact ⟨g, e1, h1, h2⟩
theorem OwnVars.get' {w : World} {base g len cap : Nat} {e : TypeId} {L : List Vr} (h : OwnVars w base e (.slice (some ⟨g, 0, none⟩) len cap) L) {j : Nat} {v : Vr} (hv : L[j]? = some v) (i : Nat) (hi : i < 5) : w.cell? ⟨g, j * 5 + i, none⟩ = (cellsOf v)[i]? := by
  have := h.len_
  subst this
  exact h.get hv i hi
theorem OwnVars.free' {w : World} {base g len cap : Nat} {e : TypeId} {L : List Vr} (h : OwnVars w base e (.slice (some ⟨g, 0, none⟩) len cap) L) (i : Nat) : w.frozen? ⟨g, i, none⟩ = false := by
  have := h.len_
  subst this
  exact h.free i
theorem OwnVars.put' {w : World} {base g len cap : Nat} {e : TypeId} {L : List Vr} (h : OwnVars w base e (.slice (some ⟨g, 0, none⟩) len cap) L) {j : Nat} {v v' : Vr} (hv : L[j]? = some v) (i : Nat) (hi : i < 5) (u : Value) (hc : (cellsOf v).set i u = cellsOf v') (hok : v'.ok) :
    OwnVars (w.setCell ⟨g, j * 5 + i, none⟩ u) base e (.slice (some ⟨g, 0, none⟩) len cap) (L.set j v') := by
  have := h.len_
  subst this
  have := h.put hv i hi u hc hok
  rwa [List.length_set] at this
/-- a store whose first k variables are done. -/
def mixed (f : Vr → Vr) (L : List Vr) (k : Nat) : List Vr := (L.take k).map f ++ L.drop k
theorem mixed_zero (f : Vr → Vr) (L : List Vr) : mixed f L 0 = L := by simp [mixed]
theorem mixed_all (f : Vr → Vr) (L : List Vr) {k : Nat} (h : L.length ≤ k) : mixed f L k = L.map f := by unfold mixed; rw [List.take_of_length_le h, List.drop_of_length_le h, List.append_nil]
theorem mixed_len (f : Vr → Vr) (L : List Vr) (k : Nat) : (mixed f L k).length = L.length := by simp [mixed]; omega
theorem mixed_at (f : Vr → Vr) {L : List Vr} {k : Nat} (h : k < L.length) : (mixed f L k)[k]? = L[k]? := by
  unfold mixed
  rw [List.getElem?_append_right (by simp; omega)]
  simp [Nat.min_eq_left (Nat.le_of_lt h)]
theorem mixed_set {f : Vr → Vr} {L : List Vr} {k : Nat} {v : Vr} (h : L[k]? = some v) : (mixed f L k).set k (f v) = mixed f L (k + 1) := by
  obtain ⟨hl, rfl⟩ := List.getElem?_eq_some_iff.1 h
  unfold mixed
  have hk : ((L.take k).map f).length = k := by simp; omega
  rw [List.set_append_right _ _ (by omega), hk, Nat.sub_self, List.drop_eq_getElem_cons hl, List.set_cons_zero, List.take_succ_eq_append_getElem hl, List.map_append, List.append_assoc]
  rfl
def DropRel (L : List Vr) (f : Vr → Vr) (A : Option Addr) (c : Nat) (w : World) (i : Value) (wr : World) : Prop := ∃ k : Nat, k ≤ L.length ∧ i = .int .i64 k ∧ OwnVars wr w.heap.size 141 (.slice A L.length c) (mixed f L k) ∧ Below w.heap.size w wr
set_option maxHeartbeats 1000000 in
theorem drop_any (A : Option Addr) (c : Nat) (L : List Vr) (s : Int) (w : World) (h : VarsAt w A L) (hl : L.length ≤ 100) (h0 : -9223372036854775808 ≤ s) (h1 : s ≤ 9223372036854775807) :
    Calls Tryz.prog 135 #[.slice A L.length c, .int .i64 s] w (RowPost (dropL L s) 141 w) := by
  have H := Lib.hid h
  clear h
  go_enter Tryz.func135, Tryz.ntmps135
  go_wp2_with fail
  refine (clone_any _ _ _ _ H.out hl).mono ?_
  rintro e w1 ⟨v, rfl, ho, hb⟩
  obtain ⟨A', c', rfl, _⟩ := ho.slice
  have HO := Lib.hid ho
  have HB := Lib.hid hb
  clear ho hb
  go_wp2
  go_loopw [10] (DropRel L (dr s) A' c' w) (fun i _ => L.length - (intOf i).toNat)
  case atStart => exact ⟨0, Nat.zero_le _, rfl, by rw [mixed_zero]; exact HO.out, HB.out⟩
  case round =>
    obtain ⟨k, hk, rfl, ho, hb⟩ := hrel
    have HO := Lib.hid ho
    have HB := Lib.hid hb
    clear ho hb
    by_cases hlt : k < L.length
    · obtain ⟨g, rfl, hg, hgl⟩ := HO.out.some_ (by rw [mixed_len]; omega)
      have hv := List.getElem?_eq_getElem hlt
      have hok := H.out.ok _ (List.getElem_mem hlt)
      generalize L[k] = v at hv hok
      have HV := Lib.hid hv
      have HK := Lib.hid hok
      have hm := hok.2.2.2.2
      have hv' : (mixed (dr s) L k)[k]? = some v := by rw [mixed_at _ hlt]; exact hv
      have c4 := HO.out.get' hv' 4 (by decide)
      simp only [cellsOf, List.getElem?_cons_succ, List.getElem?_cons_zero] at c4
      have f := HO.out.free'
      have ho1 := HO.out.put' hv' (v' := ⟨v.k, v.n, v.ver, v.wr, Sm.less v.m s⟩) 4 (by decide) (.int .u64 (Sm.less v.m s : Nat)) rfl ⟨hok.1, hok.2.1, hok.2.2.1, hok.2.2.2.1, Sm.less_lt s hm⟩
      have hv1 : ((mixed (dr s) L k).set k ⟨v.k, v.n, v.ver, v.wr, Sm.less v.m s⟩)[k]? = some ⟨v.k, v.n, v.ver, v.wr, Sm.less v.m s⟩ := List.getElem?_set_self (by rw [mixed_len]; exact hlt)
      have c3 := ho1.get' hv1 3 (by decide)
      simp only [cellsOf, List.getElem?_cons_succ, List.getElem?_cons_zero] at c3
      have f1 := ho1.free'
      have HB1 := Lib.hid (HB.out.setCell (p := ⟨g, k * 5 + 4, none⟩) hg (.int .u64 (Sm.less v.m s : Nat)))
      by_cases hw : v.wr = s
      · have ho2 := ho1.put' hv1 (v' := dr s v) 3 (by decide) (.int .i64 (-1)) (by unfold dr; rw [if_pos hw]; rfl) (dr_ok hok s)
        rw [List.set_set, mixed_set hv] at ho2
        have HO2 := Lib.hid ho2
        have HB2 := Lib.hid (HB1.out.setCell (p := ⟨g, k * 5 + 3, none⟩) hg (.int .i64 (-1)))
        clear hv hok hv' ho1 hv1 ho2
        subst hw
        go_wp2_with (go_at_call 81; refine (less_any _ _ _ hm h0 h1).mono ?_; rintro e w' ⟨rfl, rfl⟩)
        go_round
        case rel => exact ⟨k + 1, by omega, by go_num, HO2.out, HB2.out⟩
        case measure => simp [intOf]; omega
      · have hd : dr s v = ⟨v.k, v.n, v.ver, v.wr, Sm.less v.m s⟩ := by unfold dr; rw [if_neg hw]
        rw [← hd, mixed_set hv] at ho1
        have HO2 := Lib.hid ho1
        clear hv hok hv' ho1 hv1 hd
        go_wp2_with (go_at_call 81; refine (less_any _ _ _ hm h0 h1).mono ?_; rintro e w' ⟨rfl, rfl⟩)
        go_round
        case rel => exact ⟨k + 1, by omega, by go_num, HO2.out, HB1.out⟩
        case measure => simp [intOf]; omega
    · go_wp2
      go_ret
      have := HO.out
      rw [mixed_all _ _ (by omega)] at this
      exact ⟨_, rfl, this, HB.out⟩
theorem made_flat (n : Nat) : (madeCells #[.int .i64 0, .int .i64 0, .int .i64 0, .int .i64 0, .int .u64 0] (n * 5)).toList = flat (List.replicate n zero) := by
  apply List.ext_getElem?
  intro j
  by_cases hj : j < n * 5
  · have h1 : (List.replicate n zero)[j / 5]? = some zero := by rw [List.getElem?_replicate, if_pos (by omega)]
    have h2 := flat_at h1 (j % 5) (Nat.mod_lt _ (by decide))
    have e : j / 5 * 5 + j % 5 = j := by omega
    rw [e] at h2
    rw [h2]
    have hm : j % 5 < 5 := Nat.mod_lt _ (by decide)
    simp [madeCells, hj]
    generalize j % 5 = r at hm
    match r, hm with
    | 0, _ => rfl
    | 1, _ => rfl
    | 2, _ => rfl
    | 3, _ => rfl
    | 4, _ => rfl
  · rw [List.getElem?_eq_none (by simp [madeCells]; omega), List.getElem?_eq_none (by rw [flat_len]; simp; omega)]
def NewRel (n : Nat) (g : Nat) (w : World) (i : Value) (wr : World) : Prop := ∃ k : Nat, k ≤ n ∧ i = .int .i64 k ∧ OwnVars wr w.heap.size 141 (.slice (some ⟨g, 0, none⟩) n n) (mixed (fun _ => fresh) (List.replicate n zero) k) ∧ Below w.heap.size w wr
/-- a row and whether there is one. -/
def NewPost (L : List Vr) (b : Bool) (w : World) (e : Ending) (w' : World) : Prop := ∃ A c, e = .returned (.tuple #[.slice A L.length c, .bool b]) ∧ VarsAt w' A L ∧ Below w.heap.size w w'
theorem newPost_own {w w' : World} {L : List Vr} {b : Bool} {A : Option Addr} {cap len base : Nat} {e : TypeId} (ho : OwnVars w' base e (.slice A len cap) L) (hb : Below w.heap.size w w') :
    NewPost L b w (.returned (.tuple #[.slice A len cap, .bool b])) w' := by
  have := ho.len_
  subst this
  obtain ⟨A', c', e1, h1, h2, h3⟩ := ho.slice
  injection e1 with e1 _ e2
  subst e1; subst e2
  exact ⟨_, _, rfl, h3, hb⟩
def NewNew (L : List Vr) (w : World) (e : Ending) (w' : World) : Prop := ∃ A c, e = .returned (.tuple #[.slice A L.length c, .bool true]) ∧ VarsAt w' A L ∧ Below w.heap.size w w' ∧ Fr w.heap.size A
theorem NewNew.post {L : List Vr} {w : World} {e : Ending} {w' : World} (h : NewNew L w e w') : NewPost L true w e w' := by
  obtain ⟨A, c, h1, h2, h3, _⟩ := h
  exact ⟨A, c, h1, h2, h3⟩
theorem newNew_own {w w' : World} {L : List Vr} {A : Option Addr} {cap len : Nat} {e : TypeId} (ho : OwnVars w' w.heap.size e (.slice A len cap) L) (hb : Below w.heap.size w w') :
    NewNew L w (.returned (.tuple #[.slice A len cap, .bool true])) w' := by
  obtain ⟨A', c', e1, h1, h2⟩ := ho.slf
  obtain ⟨ha, hl, hc⟩ := Value.slice.inj e1
  rw [ha, hl, hc]
  exact ⟨_, _, rfl, h1, hb, h2⟩
theorem own_put5 {w : World} {base g len cap : Nat} {e : TypeId} {L : List Vr} (h : OwnVars w base e (.slice (some ⟨g, 0, none⟩) len cap) L) {j : Nat} (hj : j < L.length) {k n ver wr : Int} (hk : i64p k) (hn : i64p n) (hv : i64p ver) (hw : i64p wr) :
    OwnVars (put5 w g (j * 5) k n ver wr) base e (.slice (some ⟨g, 0, none⟩) len cap) (L.set j ⟨k, n, ver, wr, 0⟩) := by
  have := h.len_
  subst this
  exact h.put5 hj hk hn hv hw
set_option maxHeartbeats 1000000 in
theorem new_made (n : Nat) (w : World) (hn : n ≤ 64) : Calls Tryz.prog 27 #[.int .i64 (n : Nat)] w (NewNew (List.replicate n fresh) w) := by
  obtain ⟨i0, hi, hz0, hz1, hz2⟩ := info_parts var_info
  have hmk := fun W => run_make (P := Tryz.prog) W 91 141 i0 _ Tryz.underlying91 hi hz0 .i64 .i64 (n : Nat) (n : Nat) (by omega) (by omega) (by rw [hz2]; omega) (by omega)
  have h0 : ¬ ((n : Int) < 0) := by omega
  have h1 : ¬ ((64 : Int) < (n : Int)) := by omega
  have HO := Lib.hid (show OwnVars (w.alloc (.cells (madeCells #[.int .i64 0, .int .i64 0, .int .i64 0, .int .i64 0, .int .u64 0] (n * 5)) 141)) w.heap.size 141 (.slice (some ⟨w.heap.size, 0, none⟩) n n) (List.replicate n zero) from
    ⟨by rw [List.length_replicate, ← made_flat]; exact World.ownsRow_lit w _ n (Nat.le_refl _) (by unfold maxLen; omega) (size_madeCells _ _), fun v hv => by rw [List.eq_of_mem_replicate hv]; exact zero_ok⟩)
  have HB := Lib.hid (below_new w (.cells (madeCells #[.int .i64 0, .int .i64 0, .int .i64 0, .int .i64 0, .int .u64 0] (n * 5)) 141))
  simp only [Int.toNat_natCast, hz1, Value.cells] at hmk
  clear hi hz0 hz1 hz2
  go_enter Tryz.func27, Tryz.ntmps27
  go_wp2
  go_loopw [16] (NewRel n w.heap.size w) (fun i _ => n - (intOf i).toNat)
  case atStart => exact ⟨0, Nat.zero_le _, rfl, by rw [mixed_zero]; exact HO.out, HB.out⟩
  case round =>
    obtain ⟨k, hk, rfl, ho, hb⟩ := hrel
    have HO := Lib.hid ho
    have HB := Lib.hid hb
    clear ho hb hmk
    by_cases hlt : k < n
    · have hv : (List.replicate n zero)[k]? = some zero := by rw [List.getElem?_replicate, if_pos hlt]
      have hv' : (mixed (fun _ => fresh) (List.replicate n zero) k)[k]? = some zero := by rw [mixed_at _ (by simpa using hlt)]; exact hv
      have c0 := HO.out.get' hv' 0 (by decide)
      have c1 := HO.out.get' hv' 1 (by decide)
      have c2 := HO.out.get' hv' 2 (by decide)
      have c3 := HO.out.get' hv' 3 (by decide)
      have c4 := HO.out.get' hv' 4 (by decide)
      simp only [cellsOf, List.getElem?_cons_succ, List.getElem?_cons_zero, Nat.add_zero] at c0 c1 c2 c3 c4
      have f := HO.out.free'
      have ho2 := own_put5 HO.out (j := k) (by rw [mixed_len]; simpa using hlt) (k := 1) (n := 0) (ver := 0) (wr := -1) (by unfold i64p; omega) (by unfold i64p; omega) (by unfold i64p; omega) (by unfold i64p; omega)
      have e := mixed_set (f := fun _ => fresh) hv
      unfold fresh at e ho2
      rw [e] at ho2
      have HO2 := Lib.hid ho2
      have HB2 := Lib.hid (below_put5 HB.out (Nat.le_refl w.heap.size) 1 0 0 (-1) (o := k * 5))
      unfold put5 at HO2 HB2
      clear hv hv' e ho2
      go_wp2
      go_round
      case rel => exact ⟨k + 1, by omega, by go_num, HO2.out, HB2.out⟩
      case measure => simp [intOf]; omega
    · go_wp2
      go_ret2
      have := HO.out
      rw [mixed_all _ _ (by simp; omega), List.map_replicate] at this
      exact newNew_own this HB.out
theorem new_yes (n : Nat) (w : World) (hn : n ≤ 64) : Calls Tryz.prog 27 #[.int .i64 (n : Nat)] w (NewPost (List.replicate n fresh) true w) :=
  (new_made n w hn).mono fun _ _ h => h.post
set_option maxHeartbeats 1000000 in
theorem new_no (n : Int) (w : World) (hn : ¬ (0 ≤ n ∧ n ≤ 64)) : Calls Tryz.prog 27 #[.int .i64 n] w (NewPost [] false w) := by
  by_cases h0 : n < 0
  · clear hn
    go_enter Tryz.func27, Tryz.ntmps27
    go_wp2
    go_ret2
    exact ⟨_, _, rfl, VarsAt.none_ _ _, Below.refl _ _⟩
  · have h1 : (64 : Int) < n := by omega
    clear hn
    go_enter Tryz.func27, Tryz.ntmps27
    go_wp2
    go_ret2
    exact ⟨_, _, rfl, VarsAt.none_ _ _, Below.refl _ _⟩
theorem newIs_yes {n : Int} (h : 0 ≤ n ∧ n ≤ 64) : newIs n = true := by unfold newIs; simp [h.1, h.2]
theorem newIs_no {n : Int} (h : ¬ (0 ≤ n ∧ n ≤ 64)) : newIs n = false := by unfold newIs; simp; omega
theorem new_any (n : Int) (w : World) : Calls Tryz.prog 27 #[.int .i64 n] w (NewPost (newL n) (newIs n) w) := by
  unfold newL
  by_cases h : 0 ≤ n ∧ n ≤ 64
  · rw [newIs_yes h, if_pos rfl]
    obtain ⟨k, rfl⟩ := Int.eq_ofNat_of_zero_le h.1
    exact new_yes k w (by have := h.2; omega)
  · rw [newIs_no h, if_neg (by decide)]
    exact new_no n w h
end Go.Proofs.YtfdfiiocccafkaaGreatDoor.Sx
namespace Go.Proofs.YtfdfiiocccafkaaGreatDoor.Sx
open Go.RowKit St
def pcells (p : Int × Int) : List Value := [.int .i64 p.1, .int .i64 p.2]
def pflat (L : List (Int × Int)) : List Value := L.flatMap pcells
theorem pflat_len (L : List (Int × Int)) : (pflat L).length = L.length * 2 := by
  induction L with
  | nil => rfl
  | cons v L ih => simp only [pflat, List.flatMap_cons, List.length_append] at ih ⊢; rw [ih]; simp [pcells]; omega
theorem pflat_append (L M : List (Int × Int)) : pflat (L ++ M) = pflat L ++ pflat M := by simp [pflat]
theorem pflat_at {L : List (Int × Int)} {j : Nat} {v : Int × Int} (h : L[j]? = some v) (i : Nat) (hi : i < 2) : (pflat L)[j * 2 + i]? = (pcells v)[i]? := by
  obtain ⟨hl, rfl⟩ := List.getElem?_eq_some_iff.1 h
  have e : L = L.take j ++ (L[j] :: L.drop (j + 1)) := by simp
  have e2 : pflat L = pflat (L.take j) ++ (pcells L[j] ++ pflat (L.drop (j + 1))) := by
    conv => lhs; rw [e]
    rw [pflat_append]; rfl
  rw [e2, List.getElem?_append_right (by rw [pflat_len]; simp; omega), pflat_len]
  have : j * 2 + i - (List.take j L).length * 2 = i := by simp; omega
  rw [this, List.getElem?_append_left (by simp [pcells]; omega)]
theorem pflat_set {L : List (Int × Int)} {j : Nat} {v v' : Int × Int} {i : Nat} {u : Value} (h : L[j]? = some v) (hi : i < 2) (hc : (pcells v).set i u = pcells v') : (pflat L).set (j * 2 + i) u = pflat (L.set j v') := by
  obtain ⟨hl, rfl⟩ := List.getElem?_eq_some_iff.1 h
  have e : L = L.take j ++ (L[j] :: L.drop (j + 1)) := by simp
  have hj : (L.take j).length = j := by simp; omega
  have e2 : pflat L = pflat (L.take j) ++ (pcells L[j] ++ pflat (L.drop (j + 1))) := by
    conv => lhs; rw [e]
    rw [pflat_append]; rfl
  rw [e2, List.set_append_right _ _ (by rw [pflat_len, hj]; omega), pflat_len, hj, Nat.add_sub_cancel_left, List.set_append_left _ _ (by simp [pcells]; omega), hc]
  rw [List.set_eq_take_append_cons_drop, if_pos hl, pflat_append]
  rfl
/-- a row of the call's own, in block g, reads as these values. -/
structure ValsAt (w : World) (base g n : Nat) (L : List (Int × Int)) : Prop where
  row : w.ownsRow base 71 2 (.slice (some ⟨g, 0, none⟩) n n) n (pflat L)
  len : L.length = n
theorem ValsAt.ge {w : World} {base g n : Nat} {L : List (Int × Int)} (h : ValsAt w base g n L) : base ≤ g ∧ g < w.heap.size := h.row.lt g rfl
theorem ValsAt.free {w : World} {base g n : Nat} {L : List (Int × Int)} (h : ValsAt w base g n L) (i : Nat) : w.frozen? ⟨g, i, none⟩ = false := h.row.frozenAt i
theorem ValsAt.get {w : World} {base g n : Nat} {L : List (Int × Int)} (h : ValsAt w base g n L) {j : Nat} {v : Int × Int} (hv : L[j]? = some v) (i : Nat) (hi : i < 2) : w.cell? ⟨g, j * 2 + i, none⟩ = (pcells v)[i]? := by
  have hj : j < L.length := (List.getElem?_eq_some_iff.1 hv).1
  have := h.len
  rw [h.row.cellAt _ (by omega), pflat_at hv i hi]
theorem ValsAt.get0 {w : World} {base g n : Nat} {L : List (Int × Int)} (h : ValsAt w base g n L) {j : Nat} {v : Int × Int} (hv : L[j]? = some v) : w.cell? ⟨g, j * 2, none⟩ = some (.int .i64 v.1) := h.get hv 0 (by decide)
theorem ValsAt.get1 {w : World} {base g n : Nat} {L : List (Int × Int)} (h : ValsAt w base g n L) {j : Nat} {v : Int × Int} (hv : L[j]? = some v) : w.cell? ⟨g, j * 2 + 1, none⟩ = some (.int .i64 v.2) := h.get hv 1 (by decide)
theorem ValsAt.put {w : World} {base g n : Nat} {L : List (Int × Int)} (h : ValsAt w base g n L) {j : Nat} {v v' : Int × Int} (hv : L[j]? = some v) (i : Nat) (hi : i < 2) (u : Value) (hc : (pcells v).set i u = pcells v') :
    ValsAt (w.setCell ⟨g, j * 2 + i, none⟩ u) base g n (L.set j v') := by
  refine ⟨?_, by rw [List.length_set]; exact h.len⟩
  rw [← pflat_set hv hi hc]
  exact (h.row.stored _ u).1
theorem ValsAt.below {w w' : World} {base g n : Nat} {L : List (Int × Int)} {B : Nat} (h : ValsAt w base g n L) (hb : Below B w w') (hB : w.heap.size ≤ B) : ValsAt w' base g n L :=
  ⟨h.row.kept (row := none) ⟨hb.os, hb.tape, hb.output, hb.size, fun k hk _ => hb.block k (by omega)⟩ (by simp [Value.ownBlock]), h.len⟩
theorem pmade_flat (n : Nat) : (madeCells #[.int .i64 0, .int .i64 0] (n * 2)).toList = pflat (List.replicate n (0, 0)) := by
  apply List.ext_getElem?
  intro j
  by_cases hj : j < n * 2
  · have h1 : (List.replicate n ((0 : Int), (0 : Int)))[j / 2]? = some (0, 0) := by rw [List.getElem?_replicate, if_pos (by omega)]
    have h2 := pflat_at h1 (j % 2) (Nat.mod_lt _ (by decide))
    have e : j / 2 * 2 + j % 2 = j := by omega
    rw [e] at h2
    rw [h2]
    have hm : j % 2 < 2 := Nat.mod_lt _ (by decide)
    simp [madeCells, hj]
    generalize j % 2 = r at hm
    match r, hm with
    | 0, _ => rfl
    | 1, _ => rfl
  · rw [List.getElem?_eq_none (by simp [madeCells]; omega), List.getElem?_eq_none (by rw [pflat_len]; simp; omega)]
def vp (v : Vr) : Int × Int := (v.k, v.n)
def pmix (L : List Vr) (k : Nat) : List (Int × Int) := (L.take k).map vp ++ List.replicate (L.length - k) (0, 0)
theorem pmix_zero (L : List Vr) : pmix L 0 = List.replicate L.length (0, 0) := by simp [pmix]
theorem pmix_all (L : List Vr) {k : Nat} (h : L.length ≤ k) : pmix L k = L.map vp := by unfold pmix; rw [List.take_of_length_le h, Nat.sub_eq_zero_of_le h]; simp
theorem pmix_len (L : List Vr) {k : Nat} (h : k ≤ L.length) : (pmix L k).length = L.length := by simp [pmix]; omega
theorem pmix_at {L : List Vr} {k : Nat} (h : k < L.length) : (pmix L k)[k]? = some (0, 0) := by
  unfold pmix
  rw [List.getElem?_append_right (by simp; omega), List.getElem?_replicate, if_pos (by simp; omega)]
theorem pmix_set {L : List Vr} {k : Nat} {v : Vr} (h : L[k]? = some v) : (pmix L k).set k (v.k, v.n) = pmix L (k + 1) := by
  obtain ⟨hl, rfl⟩ := List.getElem?_eq_some_iff.1 h
  unfold pmix
  have hk : ((L.take k).map vp).length = k := by simp; omega
  have e : L.length - k = (L.length - (k + 1)) + 1 := by omega
  rw [List.set_append_right _ _ (by omega), hk, Nat.sub_self, e, List.replicate_succ, List.set_cons_zero, List.take_succ_eq_append_getElem hl, List.map_append, List.append_assoc]
  rfl
theorem vals_info : (Tryz.prog.info? 71).map (fun i => (i.zero, i.size, i.bytes)) = some (some (.agg #[.int .i64 0, .int .i64 0]), 2, 16) := by kernel_rfl
def ValsRel (L : List Vr) (g : Nat) (w : World) (i : Value) (wr : World) : Prop := ∃ k : Nat, k ≤ L.length ∧ i = .int .i64 k ∧ ValsAt wr w.heap.size g L.length (pmix L k) ∧ Below w.heap.size w wr
set_option maxHeartbeats 1000000 in
theorem values_any (A : Option Addr) (c : Nat) (L : List Vr) (w : World) (h : VarsAt w A L) (hl : L.length ≤ 100) :
    Calls Tryz.prog 44 #[.slice A L.length c] w fun e w' => ∃ g, e = .returned (.slice (some ⟨g, 0, none⟩) L.length L.length) ∧ ValsAt w' w.heap.size g L.length (L.map vp) ∧ Below w.heap.size w w' := by
  have H := Lib.hid h
  clear h
  obtain ⟨i0, hi, hz0, hz1, hz2⟩ := info_parts vals_info
  have hmk := fun W => run_make (P := Tryz.prog) W 33 71 i0 _ Tryz.underlying33 hi hz0 .i64 .i64 (L.length : Nat) (L.length : Nat) (by omega) (by omega) (by rw [hz2]; omega) (by omega)
  have HO := Lib.hid (show ValsAt (w.alloc (.cells (madeCells #[.int .i64 0, .int .i64 0] (L.length * 2)) 71)) w.heap.size w.heap.size L.length (List.replicate L.length (0, 0)) from
    ⟨by rw [← pmade_flat]; exact World.ownsRow_lit w _ _ (Nat.le_refl _) (by unfold maxLen; omega) (size_madeCells _ _), by simp⟩)
  have HB := Lib.hid (below_new w (.cells (madeCells #[.int .i64 0, .int .i64 0] (L.length * 2)) 71))
  simp only [Int.toNat_natCast, hz1, Value.cells] at hmk
  clear hi hz0 hz1 hz2
  go_enter Tryz.func44, Tryz.ntmps44
  go_wp2
  go_loopw [10] (ValsRel L w.heap.size w) (fun i _ => L.length - (intOf i).toNat)
  case atStart => exact ⟨0, Nat.zero_le _, rfl, by rw [pmix_zero]; exact HO.out, HB.out⟩
  case round =>
    obtain ⟨k, hk, rfl, ho, hb⟩ := hrel
    have HO := Lib.hid ho
    have HB := Lib.hid hb
    clear ho hb hmk
    by_cases hlt : k < L.length
    · obtain ⟨ad, v, rfl, hv, hok, h5⟩ := (H.out.below HB.out (Nat.le_refl _)).at_ hlt
      have a0 := h5.c0
      have a1 := h5.c1
      have hv0 := pmix_at hlt
      have c0 := HO.out.get0 hv0
      have c1 := HO.out.get1 hv0
      have f := HO.out.free
      have ho2 := (HO.out.put hv0 (v' := (v.k, 0)) 0 (by decide) (.int .i64 v.k) rfl).put (j := k) (List.getElem?_set_self (by rw [pmix_len L hk]; exact hlt)) (v' := (v.k, v.n)) 1 (by decide) (.int .i64 v.n) rfl
      rw [List.set_set, pmix_set hv] at ho2
      have HO2 := Lib.hid ho2
      have HB2 := Lib.hid ((HB.out.setCell (p := ⟨w.heap.size, k * 2, none⟩) (Nat.le_refl _) (.int .i64 v.k)).setCell (p := ⟨w.heap.size, k * 2 + 1, none⟩) (Nat.le_refl _) (.int .i64 v.n))
      clear hv hok h5 hv0 ho2
      go_wp2
      go_round
      case rel => exact ⟨k + 1, by omega, by go_num, HO2.out, HB2.out⟩
      case measure => simp [intOf]; omega
    · go_wp2
      go_ret
      have := HO.out
      rw [pmix_all _ (by omega)] at this
      exact ⟨_, rfl, this, HB.out⟩
end Go.Proofs.YtfdfiiocccafkaaGreatDoor.Sx
