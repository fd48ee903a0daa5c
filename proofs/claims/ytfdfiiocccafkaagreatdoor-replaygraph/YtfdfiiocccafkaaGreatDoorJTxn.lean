/-
  Steps and what the calls of layer 8 make of a transaction, in plain mathematics: no program in it.
  Rows of steps in memory.
  Contracts of the functions that make rows of steps out of others: the statements' two, the library's Clone; of Save, and of value's Right; the document's comparison.
  Contracts of the library's Grow and Concat, of add, Read and Write.
  The contract of txn.Back.
-/
import Derived.WalkKit
import Derived.Test.YtfdfiiocccafkaaGreatDoorProg
import Derived.WalkMore
import Derived.WalkLawsBesides
import Derived.WalkSmall
import Derived.LoopTactic
import Derived.Lib.Hide
import Derived.Below
import Derived.OwnWalk
import Derived.Maps.AppendAt
import Derived.Laws.MakeOwn
import Derived.Laws.OwnMore
import Derived.Laws.Cover3
import Derived.Deep.QuietTactic
import Derived.BigQuiet
import Derived.Laws.StructEq
import Derived.Lib.AppendZerosOnto
import Derived.Lib.SliceRun
namespace Go.Proofs.YtfdfiiocccafkaaGreatDoor.Tx
def i64p (n : Int) : Prop := -9223372036854775808 ≤ n ∧ n ≤ 9223372036854775807
/-- a step: its variable, its value (kind, number), whether it is a Write. -/
structure Sp where
  x : Int
  k : Int
  n : Int
  wr : Bool
def Sp.ok (v : Sp) : Prop := i64p v.x ∧ i64p v.k ∧ i64p v.n
def right (k n : Int) : Bool := if k = 0 then decide (n = 0) else if k = 1 then true else if k = 2 then decide (0 ≤ n) && decide (n < 64) else false
def zero : Sp := ⟨0, 0, 0, false⟩
theorem zero_ok : zero.ok := by refine ⟨⟨?_, ?_⟩, ⟨?_, ?_⟩, ⟨?_, ?_⟩⟩ <;> decide
/-- what add answers, and the row that comes of it. -/
def addE (L : List Sp) (s : Sp) : Int := if 0 ≤ s.x ∧ s.x < 64 ∧ right s.k s.n = true then (if 200 ≤ L.length then 4 else 0) else 2
def addL (L : List Sp) (s : Sp) : List Sp := if addE L s = 0 then L ++ [s] else L
/-- what Back leaves. -/
def backL (L : List Sp) (k : Nat) : List Sp := L.take k ++ (L.drop k).filter (fun s => !s.wr)
/-- the last Write of a variable, the first step of it that is none, the first step. -/
def wr1 (L : List Sp) (x : Int) : Option Sp := L.reverse.find? (fun s => decide (s.x = x) && s.wr)
def rd1 (L : List Sp) (x : Int) : Option Sp := L.find? (fun s => decide (s.x = x) && !s.wr)
def first (L : List Sp) (x : Int) : Option Sp := L.find? (fun s => decide (s.x = x))
/-- the step whose value is looked up. -/
def look (L : List Sp) (x : Int) : Option Sp := (wr1 L x).or (first L x)
/-- of the variables in order. -/
def rise (f : Int → Option Sp) (k : Nat) : List Sp := (List.range k).filterMap (fun x => f (x : Nat))
def writesL (L : List Sp) : List Sp := rise (wr1 L) 64
def readsL (L : List Sp) : List Sp := rise (rd1 L) 64
theorem take_step {α : Type} {l : List α} {k : Nat} {z : α} (h : l[k]? = some z) : l.take (k + 1) = l.take k ++ [z] := by
  obtain ⟨hl, rfl⟩ := List.getElem?_eq_some_iff.1 h
  exact List.take_succ_eq_append_getElem hl
theorem rise_succ_some {f : Int → Option Sp} {k : Nat} {s : Sp} (h : f (k : Nat) = some s) : rise f (k + 1) = rise f k ++ [s] := by
  simp [rise, List.range_succ, List.filterMap_append, h]
theorem rise_succ_none {f : Int → Option Sp} {k : Nat} (h : f (k : Nat) = none) : rise f (k + 1) = rise f k := by
  simp [rise, List.range_succ, List.filterMap_append, h]
theorem rise_len (f : Int → Option Sp) (k : Nat) : (rise f k).length ≤ k := by
  induction k with
  | zero => simp [rise]
  | succ k ih =>
    cases h : f (k : Nat) with
    | none => rw [rise_succ_none h]; omega
    | some s => rw [rise_succ_some h, List.length_append]; simp; omega
theorem rise_congr {f g : Int → Option Sp} {k : Nat} (h : ∀ x : Nat, x < k → f (x : Nat) = g (x : Nat)) : rise f k = rise g k := by
  induction k with
  | zero => rfl
  | succ k ih =>
    have ih := ih fun x hx => h x (by omega)
    have hk := h k (by omega)
    cases e : f (k : Nat) with
    | none => rw [rise_succ_none e, rise_succ_none (hk.symm.trans e), ih]
    | some s => rw [rise_succ_some e, rise_succ_some (hk.symm.trans e), ih]
theorem mem_rise {f : Int → Option Sp} {k : Nat} {s : Sp} (h : s ∈ rise f k) : ∃ x : Nat, x < k ∧ f (x : Nat) = some s := by
  unfold rise at h
  obtain ⟨x, hx, e⟩ := List.mem_filterMap.1 h
  exact ⟨x, by simpa using hx, e⟩
theorem wr1_some {L : List Sp} {x : Int} {s : Sp} (h : wr1 L x = some s) : s ∈ L ∧ s.x = x ∧ s.wr = true := by
  have h1 := List.find?_some h
  have h2 := List.mem_of_find?_eq_some h
  simp at h1 h2
  exact ⟨h2, h1.1, h1.2⟩
theorem rd1_some {L : List Sp} {x : Int} {s : Sp} (h : rd1 L x = some s) : s ∈ L ∧ s.x = x ∧ s.wr = false := by
  have h1 := List.find?_some h
  have h2 := List.mem_of_find?_eq_some h
  simp at h1
  exact ⟨h2, h1.1, h1.2⟩
theorem first_some {L : List Sp} {x : Int} {s : Sp} (h : first L x = some s) : s ∈ L ∧ s.x = x := by
  have h1 := List.find?_some h
  have h2 := List.mem_of_find?_eq_some h
  simp at h1
  exact ⟨h2, h1⟩
theorem wr1_append (L M : List Sp) (x : Int) : wr1 (L ++ M) x = (wr1 M x).or (wr1 L x) := by simp [wr1, List.reverse_append, List.find?_append]
theorem rd1_append (L M : List Sp) (x : Int) : rd1 (L ++ M) x = (rd1 L x).or (rd1 M x) := by simp [rd1, List.find?_append]
theorem first_append (L M : List Sp) (x : Int) : first (L ++ M) x = (first L x).or (first M x) := by simp [first, List.find?_append]
theorem addL_len (L : List Sp) (s : Sp) : (addL L s).length ≤ L.length + 1 := by unfold addL; split <;> simp
theorem backL_len (L : List Sp) (k : Nat) : (backL L k).length ≤ L.length := by
  unfold backL
  have h1 := List.length_filter_le (fun s : Sp => !s.wr) (L.drop k)
  simp at h1 ⊢
  omega
theorem mem_backL {L : List Sp} {k : Nat} {s : Sp} (h : s ∈ backL L k) : s ∈ L := by
  rcases List.mem_append.1 h with h | h
  · exact List.mem_of_mem_take h
  · exact List.mem_of_mem_drop (List.mem_filter.1 h).1
theorem backL_all {L : List Sp} {k : Nat} (h : L.length ≤ k) : backL L k = L := by
  unfold backL; rw [List.take_of_length_le h, List.drop_of_length_le h]; simp
theorem find_filter {α : Type} {p q : α → Bool} (h : ∀ a, p a = true → q a = true) (l : List α) : (l.filter q).find? p = l.find? p := by
  induction l with
  | nil => rfl
  | cons a l ih =>
    by_cases hq : q a = true
    · rw [List.filter_cons_of_pos hq, List.find?_cons, List.find?_cons, ih]
    · rw [List.filter_cons_of_neg hq, ih, List.find?_cons]
      have : p a = false := by cases e : p a with | true => exact absurd (h a e) hq | false => rfl
      rw [this]
theorem wr1_filter (L : List Sp) (x : Int) : wr1 (L.filter (fun s => !s.wr)) x = none := by
  unfold wr1
  rw [List.find?_eq_none]
  intro s hs
  have := (List.mem_filter.1 (List.mem_reverse.1 hs)).2
  simp at this
  simp [this]
theorem rd1_filter (L : List Sp) (x : Int) : rd1 (L.filter (fun s => !s.wr)) x = rd1 L x :=
  find_filter (fun s h => by simp at h ⊢; exact h.2) L
/-- behind a Back the Writes are what they were, and all that was read is there. -/
theorem wr1_back (L : List Sp) (k : Nat) (x : Int) : wr1 (backL L k) x = wr1 (L.take k) x := by
  unfold backL
  rw [wr1_append, wr1_filter]; rfl
theorem rd1_back (L : List Sp) (k : Nat) (x : Int) : rd1 (backL L k) x = rd1 L x := by
  unfold backL
  rw [rd1_append, rd1_filter, ← rd1_append, List.take_append_drop]
theorem writes_back (L : List Sp) (k : Nat) : writesL (backL L k) = writesL (L.take k) := rise_congr fun x _ => wr1_back L k x
theorem reads_back (L : List Sp) (k : Nat) : readsL (backL L k) = readsL L := rise_congr fun x _ => rd1_back L k x
theorem writes_none (L : List Sp) : writesL (backL L 0) = [] := by
  rw [writes_back]
  rfl
theorem back_back {L : List Sp} {k : Nat} (h : k ≤ L.length) : backL (backL L k) k = backL L k := by
  have hl : (L.take k).length = k := by simp; omega
  have e1 : (backL L k).take k = L.take k := by
    unfold backL; rw [List.take_append_of_le_length (by omega), List.take_take, Nat.min_self]
  have e2 : (backL L k).drop k = (L.drop k).filter (fun s => !s.wr) := by
    unfold backL; rw [List.drop_append_of_le_length (by omega), List.drop_of_length_le (by omega)]; rfl
  show (backL L k).take k ++ ((backL L k).drop k).filter (fun s => !s.wr) = _
  rw [e1, e2, List.filter_filter]
  simp [backL]
end Go.Proofs.YtfdfiiocccafkaaGreatDoor.Tx
namespace Go.Proofs.YtfdfiiocccafkaaGreatDoor.Tx
open Go.RowKit
def cellsOf (v : Sp) : List Value := [.int .i64 v.x, .int .i64 v.k, .int .i64 v.n, .bool v.wr]
def flat (L : List Sp) : List Value := L.flatMap cellsOf
theorem flat_nil : flat [] = [] := rfl
theorem flat_len (L : List Sp) : (flat L).length = L.length * 4 := by
  induction L with
  | nil => rfl
  | cons v L ih => simp only [flat, List.flatMap_cons, List.length_append] at ih ⊢; rw [ih]; simp [cellsOf]; omega
theorem flat_append (L M : List Sp) : flat (L ++ M) = flat L ++ flat M := by simp [flat]
theorem flat_snoc (L : List Sp) (v : Sp) : flat (L ++ [v]) = flat L ++ cellsOf v := by simp [flat]
theorem flat_at {L : List Sp} {j : Nat} {v : Sp} (h : L[j]? = some v) (i : Nat) (hi : i < 4) : (flat L)[j * 4 + i]? = (cellsOf v)[i]? := by
  obtain ⟨hl, rfl⟩ := List.getElem?_eq_some_iff.1 h
  have e : L = L.take j ++ (L[j] :: L.drop (j + 1)) := by simp
  have e2 : flat L = flat (L.take j) ++ (cellsOf L[j] ++ flat (L.drop (j + 1))) := by
    conv => lhs; rw [e]
    rw [flat_append]; rfl
  rw [e2, List.getElem?_append_right (by rw [flat_len]; simp; omega), flat_len]
  have : j * 4 + i - (List.take j L).length * 4 = i := by simp; omega
  rw [this, List.getElem?_append_left (by simp [cellsOf]; omega)]
theorem flat_one (L : List Sp) : ∀ u ∈ flat L, u.oneCell' = true := by
  intro u hu
  obtain ⟨v, _, hv⟩ := List.mem_flatMap.1 hu
  simp [cellsOf] at hv
  rcases hv with rfl | rfl | rfl | rfl <;> rfl
/-- a slice reads as these variables. -/
structure VarsAt (w : World) (A : Option Addr) (L : List Sp) : Prop where
  cell : 0 < L.length → ∃ ad, A = some ad ∧ ∀ j u, (flat L)[j]? = some u → w.cell? (ad.add j) = some u
  ok : ∀ v ∈ L, v.ok
theorem cell_lt {w : World} {p : Addr} {v : Value} (h : w.cell? p = some v) : p.block < w.heap.size := World.block_lt_of_cell? w p h
theorem add_block (ad : Addr) (j : Nat) : (ad.add j).block = ad.block := by unfold Addr.add; split <;> rfl
theorem VarsAt.below {w w' : World} {A : Option Addr} {L : List Sp} {B : Nat} (h : VarsAt w A L) (hb : Below B w w') (hB : w.heap.size ≤ B) : VarsAt w' A L :=
  ⟨fun hl => by
    obtain ⟨ad, e, hc⟩ := h.cell hl
    exact ⟨ad, e, fun j u hu => by
      have := hc j u hu
      exact (hb.cell (Nat.lt_of_lt_of_le (cell_lt this) hB)).trans this⟩, h.ok⟩
theorem add_lit (ad : Addr) (j i : Nat) : ad.add (j + (i + 1)) = ⟨(ad.add j).block, (ad.add j).off + (i + 1), none⟩ := by
  rw [← Addr.add_add, Addr.add_succ' _ i]
/-- one of them, in the walk's own words. -/
structure At4 (w : World) (p : Addr) (v : Sp) : Prop where
  c0 : w.cell? p = some (.int .i64 v.x)
  c1 : w.cell? ⟨p.block, p.off + 1, none⟩ = some (.int .i64 v.k)
  c2 : w.cell? ⟨p.block, p.off + 2, none⟩ = some (.int .i64 v.n)
  c3 : w.cell? ⟨p.block, p.off + 3, none⟩ = some (.bool v.wr)
theorem VarsAt.at_ {w : World} {A : Option Addr} {L : List Sp} (h : VarsAt w A L) {j : Nat} (hj : j < L.length) : ∃ ad v, A = some ad ∧ L[j]? = some v ∧ v.ok ∧ At4 w (ad.add (j * 4)) v := by
  obtain ⟨ad, e, hc⟩ := h.cell (by omega)
  have hv := List.getElem?_eq_getElem hj
  refine ⟨ad, L[j], e, hv, h.ok _ (List.getElem_mem hj), ?_, ?_, ?_, ?_⟩
  · exact hc _ _ ((flat_at hv 0 (by decide)).trans rfl)
  · rw [← add_lit ad (j * 4) 0]; exact hc _ _ ((flat_at hv 1 (by decide)).trans rfl)
  · rw [← add_lit ad (j * 4) 1]; exact hc _ _ ((flat_at hv 2 (by decide)).trans rfl)
  · rw [← add_lit ad (j * 4) 2]; exact hc _ _ ((flat_at hv 3 (by decide)).trans rfl)
/-- a row of the call's own reads as these variables. -/
structure OwnVars (w : World) (base : Nat) (e : TypeId) (v : Value) (L : List Sp) : Prop where
  row : w.ownsRow base e 4 v L.length (flat L)
  ok : ∀ v ∈ L, v.ok
theorem OwnVars.slice {w : World} {base : Nat} {e : TypeId} {v : Value} {L : List Sp} (h : OwnVars w base e v L) : ∃ A c, v = .slice A L.length c ∧ L.length ≤ c ∧ c ≤ maxLen ∧ VarsAt w A L := by
  rcases h.row.2 with ⟨rfl, h0⟩ | ⟨g, cap, cur, rfl, hb, hg, hn, hm, hs, ht⟩
  · exact ⟨none, 0, by rw [h0], by omega, by unfold maxLen; omega, ⟨fun hl => by omega, h.ok⟩⟩
  · exact ⟨_, cap, rfl, hn, hm, ⟨fun _ => ⟨_, rfl, h.row.cells rfl⟩, h.ok⟩⟩
theorem own_nil (w : World) (base : Nat) (e : TypeId) : OwnVars w base e (.slice none 0 0) [] := ⟨World.ownsRow_nil _ _ _ _, by simp⟩
theorem below_new (w : World) (o : Obj) : Below w.heap.size w (w.alloc o) := (Below.refl _ _).alloc (Nat.le_refl _) _
/-- a slice's type and its elements': four cells, thirty-two bytes. -/
structure VT (t e : TypeId) : Prop where
  und : Tryz.prog.underlying t = some (.slice e)
  inf : ∃ i z, Tryz.prog.info? e = some i ∧ i.zero = some z ∧ i.size = 4 ∧ i.bytes = 32 ∧ z.cells.size = 4
theorem step_info : (Tryz.prog.info? 76).map (fun i => (i.zero, i.size, i.bytes)) = some (some (.agg #[.int .i64 0, .int .i64 0, .int .i64 0, .bool false]), 4, 32) := by kernel_rfl
theorem rstep_info : (Tryz.prog.info? 185).map (fun i => (i.zero, i.size, i.bytes)) = some (some (.agg #[.int .i64 0, .int .i64 0, .int .i64 0, .bool false]), 4, 32) := by kernel_rfl
theorem vt : VT 113 76 := by
  obtain ⟨i0, hi, hz0, hz1, hz2⟩ := info_parts step_info
  exact ⟨Tryz.underlying113, i0, _, hi, hz0, hz1, hz2, rfl⟩
theorem lvt : VT 77 76 := by
  obtain ⟨i0, hi, hz0, hz1, hz2⟩ := info_parts step_info
  exact ⟨Tryz.underlying77, i0, _, hi, hz0, hz1, hz2, rfl⟩
theorem rvt : VT 54 185 := by
  obtain ⟨i0, hi, hz0, hz1, hz2⟩ := info_parts rstep_info
  exact ⟨Tryz.underlying54, i0, _, hi, hz0, hz1, hz2, rfl⟩
theorem run_append_vars {t e : TypeId} (T : VT t e) (ty : TypeId) {W : World} {base : Nat} {v : Value} {L : List Sp} (hown : OwnVars W base e v L) {A : Option Addr} (c : Nat) {M : List Sp} (hM : VarsAt W A M) (hlen : L.length + M.length ≤ 1000) (hbase : base ≤ W.heap.size) :
    ∃ v' w', (Builtin.append_ #[t, t] ty #[v, .slice A M.length c]).run Tryz.prog W = .ok v' w' ∧ OwnVars w' base e v' (L ++ M) ∧ W.grownBy w' v.ownBlock := by
  obtain ⟨i, z, hi, hz, hs, hb, hzs⟩ := T.inf
  have hok : ∀ x ∈ L ++ M, x.ok := fun x hx => by
    rcases List.mem_append.1 hx with h | h
    · exact hown.ok x h
    · exact hM.ok x h
  rcases A with _ | ad
  · have hm : M = [] := by
      rcases M with _ | ⟨x, M⟩
      · rfl
      · obtain ⟨ad, h, _⟩ := hM.cell (by simp)
        cases h
    subst hm
    have hr : (Builtin.append_ #[t, t] ty #[v, .slice none 0 c]).run Tryz.prog W = .ok v W := by
      rcases hown.row.2 with ⟨rfl, h0⟩ | ⟨g, cap, cur, rfl, _, _, hnc, _⟩
      · simp [Builtin.append_, run_underlying T.und, sizeOf, typeInfo, hi, Builtin.lenOf, Builtin.firstCells]
      · simp [Builtin.append_, run_underlying T.und, sizeOf, typeInfo, hi, Builtin.lenOf, Builtin.firstCells, hnc, storeCells]
    exact ⟨v, W, hr, by simpa using hown, ⟨rfl, rfl, rfl, Nat.le_refl _, fun _ _ _ => rfl⟩⟩
  · have hc : ∀ j u, (flat M)[j]? = some u → W.cell? (ad.add j) = some u := by
      intro j u hu
      rcases M with _ | ⟨x, M⟩
      · simp [flat] at hu
      · obtain ⟨ad', h, hc⟩ := hM.cell (by simp)
        have h := Option.some.inj h
        subst h
        exact hc j u hu
    obtain ⟨v', w', hr, h2, h3, _⟩ := run_append_own (P := Tryz.prog) W base t ty e i z 4 32 T.und hi hz hs hb hzs (by decide) v L.length (flat L) hown.row ad M.length c (flat M) (flat_len M) hc (flat_one M) (by unfold maxLen; omega) (by omega) hbase
    refine ⟨v', w', hr, ⟨?_, hok⟩, h3⟩
    rw [List.length_append, flat_append]
    exact h2
theorem append_vars {t e : TypeId} (T : VT t e) {ops : Array Oper} {rest : List Oper} {o : Oper} {a : Act} {Q : Exit → Act → World → Prop} (hgd : o.guard = none) (s x : Operand)
    (ho : o.op = .call { callee := .builtin .append, args := #[s, x], argTypes := #[t, t] }) {W : World} {base : Nat} {v : Value} {L : List Sp} (hs : a.eval s = v) (hown : OwnVars W base e v L)
    (A : Option Addr) (c : Nat) (M : List Sp) {m : Nat} (hm : M.length = m) (hx : a.eval x = .slice A m c) (hM : VarsAt W A M) (hlen : L.length + M.length ≤ 1000) (hbase : base ≤ W.heap.size)
    (h : ∀ v' w', OwnVars w' base e v' (L ++ M) → Below base W w' → W.heap.size ≤ w'.heap.size → wpList Tryz.prog ops Q rest (a.put o.dst v') w') : wpList Tryz.prog ops Q (o :: rest) a W := by
  subst hm
  obtain ⟨v', w', hr, h2, h3⟩ := run_append_vars T o.type hown c hM hlen hbase
  refine wpList_plain hgd fun _ hK => ?_
  unfold Oper.wp execOp
  simp only [ho, resolve, invoke, builtin, Sem.run_bind, Sem.run_pure, Result.andThen_ok, List.map_toArray, List.map_cons, List.map_nil, hs, hx, hr]
  exact hK _ _ (h v' w' h2 ((Below.refl _ _).grown h3 hbase (fun k hk => (hown.row.lt k hk).1)) h3.size)
theorem OwnVars.alloc {w : World} {base : Nat} {e : TypeId} {v : Value} {L : List Sp} (h : OwnVars w base e v L) (o : Obj) : OwnVars (w.alloc o) base e v L := ⟨h.row.alloc o, h.ok⟩
theorem OwnVars.below {w w' : World} {base : Nat} {e : TypeId} {v : Value} {L : List Sp} {B : Nat} (h : OwnVars w base e v L) (hb : Below B w w') (hB : w.heap.size ≤ B) : OwnVars w' base e v L :=
  ⟨h.row.kept (row := none) ⟨hb.os, hb.tape, hb.output, hb.size, fun k hk _ => hb.block k (by omega)⟩ (by cases hv : v.ownBlock <;> simp), h.ok⟩
/-- a variable in a block of its own. -/
def stepA (v : Sp) : Array Value := #[.int .i64 v.x, .int .i64 v.k, .int .i64 v.n, .bool v.wr]
theorem new_vars (w : World) (v : Sp) (t : TypeId) (hv : v.ok) : VarsAt (w.alloc (.cells (stepA v) t)) (some ⟨w.heap.size, 0, none⟩) [v] :=
  ⟨fun _ => ⟨_, rfl, fun j u hu => by
    have hadd : (⟨w.heap.size, 0, none⟩ : Addr).add j = ⟨w.heap.size, j, none⟩ := by unfold Addr.add; split <;> simp_all
    rw [hadd, cell_of_row _ w.heap.size j (stepA v) t (0, 0) (heap_alloc_new w _)]
    simpa [flat, cellsOf, stepA] using hu⟩, fun x hx => by simp at hx; subst hx; exact hv⟩
theorem new_vars' {w : World} {g : Nat} (hg : w.heap.size = g) (v : Sp) (t : TypeId) (hv : v.ok) : VarsAt (w.alloc (.cells (stepA v) t)) (some ⟨g, 0, none⟩) [v] := by
  subst hg; exact new_vars w v t hv
theorem size_new (w : World) (o : Obj) : (w.alloc o).heap.size = w.heap.size + 1 := by simp
theorem own_empty (w : World) (e : TypeId) {g : Nat} (hg : w.heap.size = g) {base : Nat} (hb : base ≤ w.heap.size) : OwnVars (w.alloc (.cells #[] e)) base e (.slice (some ⟨g, 0, none⟩) 0 0) [] := by
  subst hg
  exact ⟨World.ownsRow_lit w #[] 0 hb (by unfold maxLen; omega) rfl, by simp⟩
theorem VarsAt.nil_ {w : World} {L : List Sp} (h : VarsAt w none L) : L = [] := by
  rcases L with _ | ⟨x, L⟩
  · rfl
  · obtain ⟨ad, h, _⟩ := h.cell (by simp)
    cases h
theorem VarsAt.alloc {w : World} {A : Option Addr} {L : List Sp} (h : VarsAt w A L) (o : Obj) : VarsAt (w.alloc o) A L := h.below (below_new w o) (Nat.le_refl _)
theorem eq_nil {t e : TypeId} (T : VT t e) (A : Option Addr) (n c : Nat) (W : World) : (binOp .eql t (.slice A n c) (.slice none 0 0)).run Tryz.prog W = .ok (.bool A.isNone) W := by
  simp [binOp, run_equal_slice_nil W t e A n c T.und]
theorem VarsAt.take {w : World} {ad : Addr} {L : List Sp} (h : VarsAt w (some ad) L) (x : Nat) : VarsAt w (some ad) (L.take x) :=
  ⟨fun hl => by
    obtain ⟨ad', e, hc⟩ := h.cell (by simp at hl; omega)
    have e := Option.some.inj e
    subst e
    refine ⟨ad, rfl, fun j u hu => hc j u ?_⟩
    have e2 : flat L = flat (L.take x) ++ flat (L.drop x) := by rw [← flat_append, List.take_append_drop]
    rw [e2, List.getElem?_append_left (List.getElem?_eq_some_iff.1 hu).1]
    exact hu, fun v hv => h.ok v (List.mem_of_mem_take hv)⟩
theorem VarsAt.drop {w : World} {ad : Addr} {L : List Sp} (h : VarsAt w (some ad) L) (x : Nat) : VarsAt w (some (ad.add (x * 4))) (L.drop x) :=
  ⟨fun hl => by
    obtain ⟨ad', e, hc⟩ := h.cell (by simp at hl; omega)
    have e := Option.some.inj e
    subst e
    refine ⟨_, rfl, fun j u hu => ?_⟩
    rw [Addr.add_add]
    refine hc _ u ?_
    have e2 : flat L = flat (L.take x) ++ flat (L.drop x) := by rw [← flat_append, List.take_append_drop]
    have hx : (L.take x).length = x := by simp at hl ⊢; omega
    rw [e2, List.getElem?_append_right (by rw [flat_len, hx]; omega), flat_len, hx, Nat.add_sub_cancel_left]
    exact hu, fun v hv => h.ok v (List.mem_of_mem_drop hv)⟩
theorem VarsAt.none_ (w : World) (A : Option Addr) : VarsAt w A [] := ⟨fun h => by simp at h, by simp⟩
/-- the block b holds the variable v. -/
structure VarAt (w : World) (b : Nat) (t : TypeId) (v : Sp) : Prop where
  is : w.heap[b]? = some (.cells (stepA v) t (0, 0))
theorem stepAt_new (w : World) (v : Sp) (t : TypeId) : VarAt (w.alloc (.cells (stepA v) t)) w.heap.size t v := ⟨heap_alloc_new w _⟩
theorem VarAt.lt {w : World} {b : Nat} {t : TypeId} {v : Sp} (h : VarAt w b t v) : b < w.heap.size := (Array.getElem?_eq_some_iff.1 h.is).1
theorem VarAt.below {w w' : World} {b : Nat} {t : TypeId} {v : Sp} {B : Nat} (h : VarAt w b t v) (hb : Below B w w') (hB : b < B) : VarAt w' b t v := ⟨(hb.block b hB).trans h.is⟩
theorem VarAt.alloc {w : World} {b : Nat} {t : TypeId} {v : Sp} (h : VarAt w b t v) (o : Obj) : VarAt (w.alloc o) b t v := h.below (below_new w o) h.lt
theorem VarAt.c0 {w : World} {b : Nat} {t : TypeId} {v : Sp} (h : VarAt w b t v) : w.cell? ⟨b, 0, none⟩ = some (.int .i64 v.x) := cell_of_row w b 0 _ t (0, 0) h.is
theorem VarAt.c1 {w : World} {b : Nat} {t : TypeId} {v : Sp} (h : VarAt w b t v) : w.cell? ⟨b, 1, none⟩ = some (.int .i64 v.k) := cell_of_row w b 1 _ t (0, 0) h.is
theorem VarAt.c2 {w : World} {b : Nat} {t : TypeId} {v : Sp} (h : VarAt w b t v) : w.cell? ⟨b, 2, none⟩ = some (.int .i64 v.n) := cell_of_row w b 2 _ t (0, 0) h.is
theorem VarAt.c3 {w : World} {b : Nat} {t : TypeId} {v : Sp} (h : VarAt w b t v) : w.cell? ⟨b, 3, none⟩ = some (.bool v.wr) := cell_of_row w b 3 _ t (0, 0) h.is
theorem VarAt.free {w : World} {b : Nat} {t : TypeId} {v : Sp} (h : VarAt w b t v) (i : Nat) : w.frozen? ⟨b, i, none⟩ = false := by
  simp [World.frozen?, h.is]
theorem OwnVars.mono {w : World} {base B : Nat} {e : TypeId} {v : Value} {L : List Sp} (h : OwnVars w base e v L) (hB : B ≤ base) : OwnVars w B e v L := by
  refine ⟨⟨h.row.1, ?_⟩, h.ok⟩
  rcases h.row.2 with hn | ⟨g, cap, cur, e1, hb, rest⟩
  · exact .inl hn
  · exact .inr ⟨g, cap, cur, e1, by omega, rest⟩
theorem flat_set {L : List Sp} {j : Nat} {v v' : Sp} {i : Nat} {u : Value} (h : L[j]? = some v) (hi : i < 4) (hc : (cellsOf v).set i u = cellsOf v') : (flat L).set (j * 4 + i) u = flat (L.set j v') := by
  obtain ⟨hl, rfl⟩ := List.getElem?_eq_some_iff.1 h
  have e : L = L.take j ++ (L[j] :: L.drop (j + 1)) := by simp
  have hj : (L.take j).length = j := by simp; omega
  have e2 : flat L = flat (L.take j) ++ (cellsOf L[j] ++ flat (L.drop (j + 1))) := by
    conv => lhs; rw [e]
    rw [flat_append]; rfl
  rw [e2, List.set_append_right _ _ (by rw [flat_len, hj]; omega), flat_len, hj, Nat.add_sub_cancel_left, List.set_append_left _ _ (by simp [cellsOf]; omega), hc]
  rw [List.set_eq_take_append_cons_drop, if_pos hl, flat_append]
  rfl
/-- one cell of a row of the call's own is put. -/
theorem OwnVars.put {w : World} {base g cap : Nat} {e : TypeId} {L : List Sp} (h : OwnVars w base e (.slice (some ⟨g, 0, none⟩) L.length cap) L) {j : Nat} {v v' : Sp} (hv : L[j]? = some v) (i : Nat) (hi : i < 4) (u : Value) (hc : (cellsOf v).set i u = cellsOf v') (hok : v'.ok) :
    OwnVars (w.setCell ⟨g, j * 4 + i, none⟩ u) base e (.slice (some ⟨g, 0, none⟩) (L.set j v').length cap) (L.set j v') := by
  refine ⟨?_, fun x hx => ?_⟩
  · rw [List.length_set, ← flat_set hv hi hc]
    exact (h.row.stored _ u).1
  · rcases List.mem_or_eq_of_mem_set hx with hx | rfl
    · exact h.ok x hx
    · exact hok
theorem OwnVars.open_ {w : World} {base : Nat} {e : TypeId} {v : Value} {L : List Sp} (h : OwnVars w base e v L) (hl : 0 < L.length) : ∃ g cap, v = .slice (some ⟨g, 0, none⟩) L.length cap ∧ base ≤ g ∧ g < w.heap.size := by
  rcases h.row.2 with ⟨_, h0⟩ | ⟨g, cap, cur, rfl, hb, hg, _⟩
  · omega
  · exact ⟨g, cap, rfl, hb, (Array.getElem?_eq_some_iff.1 hg).1⟩
theorem OwnVars.free {w : World} {base g cap : Nat} {e : TypeId} {L : List Sp} (h : OwnVars w base e (.slice (some ⟨g, 0, none⟩) L.length cap) L) (i : Nat) : w.frozen? ⟨g, i, none⟩ = false := h.row.frozenAt i
theorem OwnVars.get {w : World} {base g cap : Nat} {e : TypeId} {L : List Sp} (h : OwnVars w base e (.slice (some ⟨g, 0, none⟩) L.length cap) L) {j : Nat} {v : Sp} (hv : L[j]? = some v) (i : Nat) (hi : i < 4) : w.cell? ⟨g, j * 4 + i, none⟩ = (cellsOf v)[i]? := by
  have hj : j < L.length := (List.getElem?_eq_some_iff.1 hv).1
  rw [h.row.cellAt _ (by omega), flat_at hv i hi]
theorem OwnVars.get0 {w : World} {base g cap : Nat} {e : TypeId} {L : List Sp} (h : OwnVars w base e (.slice (some ⟨g, 0, none⟩) L.length cap) L) {j : Nat} {v : Sp} (hv : L[j]? = some v) : w.cell? ⟨g, j * 4, none⟩ = some (.int .i64 v.x) := h.get hv 0 (by decide)
/-- a slice that reads as these steps, its room within bounds. -/
structure SlAt (w : World) (A : Option Addr) (c : Nat) (L : List Sp) : Prop where
  at_ : VarsAt w A L
  le : L.length ≤ c
  max : c ≤ maxLen
theorem SlAt.below {w w' : World} {A : Option Addr} {c : Nat} {L : List Sp} (h : SlAt w A c L) (hb : Below w.heap.size w w') : SlAt w' A c L := ⟨h.at_.below hb (Nat.le_refl _), h.le, h.max⟩
theorem SlAt.alloc {w : World} {A : Option Addr} {c : Nat} {L : List Sp} (h : SlAt w A c L) (o : Obj) : SlAt (w.alloc o) A c L := h.below (below_new w o)
theorem OwnVars.sl {w : World} {base : Nat} {e : TypeId} {v : Value} {L : List Sp} (h : OwnVars w base e v L) : ∃ A c, v = .slice A L.length c ∧ SlAt w A c L := by
  obtain ⟨A, c, e, h1, h2, h3⟩ := h.slice
  exact ⟨A, c, e, h3, h1, h2⟩
/-- a row that was made behind a point. -/
def Fr (n : Nat) (T : Option Addr) : Prop := ∀ ad, T = some ad → n ≤ ad.block
theorem Fr.mono {n m : Nat} {T : Option Addr} (h : Fr n T) (hm : m ≤ n) : Fr m T := fun ad e => Nat.le_trans hm (h ad e)
theorem OwnVars.slf {w : World} {base : Nat} {e : TypeId} {v : Value} {L : List Sp} (h : OwnVars w base e v L) : ∃ A c, v = .slice A L.length c ∧ SlAt w A c L ∧ Fr base A := by
  obtain ⟨A, c, e1, h1⟩ := h.sl
  refine ⟨A, c, e1, h1, ?_⟩
  rcases h.row.2 with ⟨e2, _⟩ | ⟨g, cap, cur, e2, hb, _⟩
  · rw [e1] at e2
    have ha := (Value.slice.inj e2).1
    exact fun ad e => by rw [ha] at e; cases e
  · rw [e1] at e2
    have ha := (Value.slice.inj e2).1
    exact fun ad e => by rw [ha] at e; cases e; exact hb
end Go.Proofs.YtfdfiiocccafkaaGreatDoor.Tx
namespace Go.Proofs.YtfdfiiocccafkaaGreatDoor.Tx
open Go.RowKit
def RowRel (L : List Sp) (e : TypeId) (w : World) (v i : Value) (wr : World) : Prop := ∃ k : Nat, k ≤ L.length ∧ i = .int .i64 k ∧ OwnVars wr w.heap.size e v (L.take k) ∧ Below w.heap.size w wr
/-- a row of the call's own, and nothing that was there is changed. -/
def RowPost (L : List Sp) (e : TypeId) (w : World) (x : Ending) (w' : World) : Prop := ∃ v, x = .returned v ∧ OwnVars w' w.heap.size e v L ∧ Below w.heap.size w w'
set_option maxHeartbeats 1000000 in
theorem ours_any (A : Option Addr) (c : Nat) (L : List Sp) (w : World) (h : VarsAt w A L) (hl : L.length ≤ 300) :
    Calls Tryz.prog 58 #[.slice A L.length c] w (RowPost L 185 w) := by
  have H := Lib.hid h
  clear h
  have hN : (L.length : Int) ≤ 9223372036854775807 := by omega
  go_enter Tryz.func58, Tryz.ntmps58
  go_wp2
  go_loopw [3, 8] (RowRel L 185 w) (fun _ i _ => L.length - (intOf i).toNat)
  case atStart => exact ⟨0, Nat.zero_le _, rfl, own_nil _ _ _, Below.refl _ _⟩
  case round =>
    obtain ⟨k, hk, rfl, ho, hb⟩ := hrel
    have HO := Lib.hid ho
    have HB := Lib.hid hb
    clear ho hb
    by_cases hlt : k < L.length
    · obtain ⟨ad, v, rfl, hv, hok, h5⟩ := (H.out.below HB.out (Nat.le_refl _)).at_ hlt
      obtain ⟨c0, c1, c2, c3⟩ := h5
      have HV := Lib.hid hv
      have HK := Lib.hid hok
      clear hv hok
      have hlt' : (k : Int) < (L.length : Int) := by omega
      go_wp2_with (at_builtin; refine append_vars rvt rfl _ _ rfl rfl ((HO.out.alloc _).alloc _) _ _ [v] rfl rfl (new_vars' (size_new _ _) v _ HK.out) ?c1 ?c2 ?_)
      case c1 => simp; omega
      case c2 => have := HB.out.size; simp; omega
      intro v' w1 ho1 hb1 hs1
      have HO1 := Lib.hid ho1
      have HB1 := Lib.hid (((HB.out.alloc HB.out.size _).alloc (by have := HB.out.size; simp; omega) _).trans hb1)
      clear ho1 hb1
      go_wp2
      go_round
      case rel => exact ⟨k + 1, by omega, by go_num, by rw [take_step HV.out]; exact HO1.out, HB1.out⟩
      case measure => simp [intOf]; omega
    · have hlt' : ¬ (k : Int) < (L.length : Int) := by omega
      go_wp2
      go_ret
      have := HO.out
      rw [List.take_of_length_le (by omega)] at this
      exact ⟨_, rfl, this, HB.out⟩
set_option maxHeartbeats 1000000 in
theorem clone_any (A : Option Addr) (c : Nat) (L : List Sp) (w : World) (h : VarsAt w A L) (hl : L.length ≤ 300) :
    Calls Tryz.prog 114 #[.slice A L.length c] w (RowPost L 76 w) := by
  have H := Lib.hid h
  clear h
  have hnil := fun W => eq_nil vt A L.length c W
  rcases A with _ | ad
  · obtain rfl := H.out.nil_
    clear hnil
    have hnil := fun W => eq_nil vt none 0 c W
    go_enter Tryz.func114, Tryz.ntmps114
    go_wp2
    go_ret
    exact ⟨_, rfl, own_nil _ _ _, Below.refl _ _⟩
  · go_enter Tryz.func114, Tryz.ntmps114
    go_wp2_with (at_builtin; refine append_vars vt rfl _ _ rfl rfl (own_empty w 76 rfl (Nat.le_refl _)) _ _ L rfl rfl (H.out.alloc _) ?c1 ?c2 ?_)
    case c1 => simp; omega
    case c2 => simp
    intro v' w1 ho1 hb1 hs1
    have HO1 := Lib.hid ho1
    have HB1 := Lib.hid ((below_new w (.cells #[] 76)).trans hb1)
    clear ho1 hb1
    go_wp2
    go_ret
    exact ⟨_, rfl, HO1.out, HB1.out⟩
theorem below_drewN (B : Nat) (w : World) (n : Nat) : Below B w (w.drewN n) := ⟨rfl, rfl, rfl, Nat.le_refl _, fun _ _ => rfl⟩
def SameRel (L : List Sp) (w : World) (i : Value) (wr : World) : Prop := ∃ k : Nat, k ≤ L.length ∧ i = .int .i64 k ∧ Below w.heap.size w wr
set_option maxHeartbeats 1000000 in
theorem same_yes (A B : Option Addr) (c d : Nat) (L : List Sp) (w : World) (hA : VarsAt w A L) (hB : VarsAt w B L) (hl : L.length ≤ 300) :
    Calls Tryz.prog 57 #[.slice A L.length c, .slice B L.length d] w fun e w' => e = .returned (.bool true) ∧ Below w.heap.size w w' := by
  have HA := Lib.hid hA
  have HB := Lib.hid hB
  clear hA hB
  go_enter Tryz.func57, Tryz.ntmps57
  go_wp2
  go_loopw [5] (SameRel L w) (fun i _ => L.length - (intOf i).toNat)
  case atStart => exact ⟨0, Nat.zero_le _, rfl, Below.refl _ _⟩
  case round =>
    obtain ⟨k, hk, rfl, hb⟩ := hrel
    have HW := Lib.hid hb
    clear hb
    by_cases hlt : k < L.length
    · obtain ⟨ad, v, rfl, hv, hok, h5⟩ := (HA.out.below HW.out (Nat.le_refl _)).at_ hlt
      obtain ⟨ad', v', rfl, hv', hok', h5'⟩ := (HB.out.below HW.out (Nat.le_refl _)).at_ hlt
      obtain rfl : v = v' := Option.some.inj (hv.symm.trans hv')
      obtain ⟨c0, c1, c2, c3⟩ := h5
      obtain ⟨d0, d1, d2, d3⟩ := h5'
      clear hv hv' hok hok'
      have hlt' : (k : Int) < (L.length : Int) := by omega
      have h0 : (0 : Int) ≤ (k : Int) := by omega
      go_wp2
      go_quiet (fail)
      go_wp2
      go_round
      case rel => exact ⟨k + 1, by omega, by go_num, HW.out.trans (below_drewN _ _ _)⟩
      case measure => simp [intOf]; omega
    · go_wp2
      go_ret
      exact ⟨rfl, HW.out⟩
set_option maxHeartbeats 1000000 in
theorem right_any (k n : Int) (w : World) :
    Calls Tryz.prog 113 #[.agg #[.int .i64 k, .int .i64 n]] w fun e w' => e = .returned (.bool (right k n)) ∧ Below w.heap.size w w' := by
  unfold right
  by_cases h0 : k = 0
  · subst h0
    go_enter Tryz.func113, Tryz.ntmps113
    go_wp2
    go_ret
    exact ⟨rfl, below_new _ _⟩
  by_cases h1 : k = 1
  · subst h1
    go_enter Tryz.func113, Tryz.ntmps113
    go_wp2
    go_ret
    exact ⟨rfl, below_new _ _⟩
  by_cases h2 : k = 2
  · subst h2
    by_cases hn : 0 ≤ n
    · have hd : decide (0 ≤ n) = true := by simpa using hn
      go_enter Tryz.func113, Tryz.ntmps113
      go_wp2
      go_ret
      exact ⟨rfl, below_new _ _⟩
    · have hd : decide (0 ≤ n) = false := by simpa using hn
      go_enter Tryz.func113, Tryz.ntmps113
      go_wp2
      go_ret
      exact ⟨rfl, below_new _ _⟩
  · go_enter Tryz.func113, Tryz.ntmps113
    go_wp2
    go_ret
    exact ⟨rfl, below_new _ _⟩
theorem right_val (k n : Int) (b : Bool) (w : World) (h : right k n = b) :
    Calls Tryz.prog 113 #[.agg #[.int .i64 k, .int .i64 n]] w fun e w' => e = .returned (.bool b) ∧ Below w.heap.size w w' := by
  have := right_any k n w
  rwa [h] at this
theorem save_any (A : Option Addr) (n c : Nat) (w : World) :
    Calls Tryz.prog 55 #[.slice A n c] w fun e w' => e = .returned (.int .i64 (n : Nat)) ∧ w = w' := by
  go_enter Tryz.func55, Tryz.ntmps55
  go_wp2
  go_ret
  exact ⟨rfl, rfl⟩
end Go.Proofs.YtfdfiiocccafkaaGreatDoor.Tx
namespace Go.Proofs.YtfdfiiocccafkaaGreatDoor.Tx
open Go.RowKit
theorem new_cell {W : World} {g : Nat} (hg : W.heap.size = g) (cs : Array Value) (t : TypeId) (i : Nat) : (W.alloc (.cells cs t)).cell? ⟨g, i, none⟩ = cs[i]? := by
  subst hg; exact cell_of_row _ _ i _ _ (0, 0) (heap_alloc_new _ _)
theorem below_drew (w : World) : Below w.heap.size w w.drew := ⟨rfl, rfl, rfl, Nat.le_refl _, fun _ _ => rfl⟩
set_option maxHeartbeats 1000000 in
theorem grow_any (n : Nat) (w : World) (h0 : 0 < n) (hn : n ≤ 400) :
    Calls Tryz.prog 171 #[.slice none 0 0, .int .i64 (n : Nat)] w fun e w' => ∃ g c, e = .returned (.slice (some ⟨g, 0, none⟩) 0 c) ∧ OwnVars w' w.heap.size 76 (.slice (some ⟨g, 0, none⟩) 0 c) [] ∧ Below w.heap.size w w' ∧ w.heap.size < w'.heap.size := by
  obtain ⟨i0, hi, hz0, hz1, hz2⟩ := info_parts step_info
  have hr := fun ty => Lib.run_append_grow_zeros (P := Tryz.prog) w 113 3 ty 76 i0 _ .i64 .i64 Tryz.underlying113 Tryz.underlying3 hi hz0 none 0 0 [] (run_firstCells_none w.drew i0.size 0 0 0) n h0 (by omega) (by omega) (by omega) (by rw [hz2]; omega) (by rw [hz2]; exact growslice_fits (by omega) (by omega))
  have hG := grownCap_le_maxLen w (0 + n) 0 76 (by unfold maxLen; omega)
  have hG2 := grownCap_ge w (0 + n) 0 76
  obtain ⟨G, e⟩ : ∃ G, G = grownCap w (0 + n) 0 76 := ⟨_, rfl⟩
  rw [← e] at hG hG2
  simp only [← e] at hr
  obtain ⟨o, ho⟩ : ∃ o, o = Obj.cells (#[] ++ Builtin.zeroCells (Value.cells (.agg #[.int .i64 0, .int .i64 0, .int .i64 0, .bool false])) n ++ Builtin.zeroCells (Value.cells (.agg #[.int .i64 0, .int .i64 0, .int .i64 0, .bool false])) (G - (0 + n))) 76 := ⟨_, rfl⟩
  rw [show ([] : List Value).toArray = #[] from rfl] at hr
  simp only [← ho] at hr
  have HO := Lib.hid (show OwnVars (w.drew.alloc o) w.heap.size 76 (.slice (some ⟨w.heap.size, 0, none⟩) 0 G) [] from
    ⟨⟨rfl, .inr ⟨w.heap.size, G, _, rfl, Nat.le_refl _, (heap_alloc_new w.drew _).trans (by rw [ho]), Nat.zero_le _, hG, by simp [size_zeroCells, Value.cells]; omega, rfl⟩⟩, by simp⟩)
  have HB := Lib.hid ((below_drew w).trans (below_new w.drew o))
  have HS := Lib.hid (show w.heap.size < (w.drew.alloc o).heap.size by rw [size_new]; exact Nat.lt_succ_self _)
  unfold maxLen at hG
  have hG3 : (G : Int) ≤ 9223372036854775807 := by omega
  clear hi hz0 hz1 hz2 ho e
  have hn0 : ¬ (n : Int) < 0 := by omega
  have hn1 : (n : Int) > 0 := by omega
  go_enter Tryz.func171, Tryz.ntmps171
  go_wp2_with (at_builtin; refine Lib.wpList_append_run _ rfl _ _ _ _ rfl _ _ rfl rfl _ _ (hr _) ?_)
  go_ret
  exact ⟨_, _, rfl, HO.out, HB.out, HS.out⟩
/-- what has come of two rows. -/
def part (L M : List Sp) : Nat → List Sp
  | 0 => []
  | 1 => L
  | _ => L ++ M
theorem part_len (L M : List Sp) (k : Nat) : (part L M k).length ≤ L.length + M.length := by
  unfold part
  split <;> simp
def SumRel (L M : List Sp) (w : World) (s i : Value) (wr : World) : Prop := ∃ k : Nat, k ≤ 2 ∧ i = .int .i64 k ∧ s = .int .i64 ((part L M k).length : Nat) ∧ w = wr
def CatRel (L M : List Sp) (w : World) (v i : Value) (wr : World) : Prop := ∃ k : Nat, k ≤ 2 ∧ i = .int .i64 k ∧ OwnVars wr w.heap.size 76 v (part L M k) ∧ Below w.heap.size w wr
set_option maxHeartbeats 2000000 in
theorem concat_any (g : Nat) (A B : Option Addr) (c d : Nat) (L M : List Sp) (w : World) (h0 : w.cell? ⟨g, 0, none⟩ = some (.slice A L.length c)) (h1 : w.cell? ⟨g, 1, none⟩ = some (.slice B M.length d)) (hA : VarsAt w A L) (hB : VarsAt w B M) (hp : 0 < L.length + M.length) (hl : L.length + M.length ≤ 400) :
    Calls Tryz.prog 145 #[.slice (some ⟨g, 0, none⟩) 2 2] w (RowPost (L ++ M) 76 w) := by
  have HA := Lib.hid hA
  have HB := Lib.hid hB
  clear hA hB
  have H0 := Lib.hid h0
  have H1 := Lib.hid h1
  have HP := Lib.hid hp
  have HL := Lib.hid hl
  clear h0 h1 hp hl
  go_enter Tryz.func145, Tryz.ntmps145
  go_wp2
  go_loopw [3, 11] (SumRel L M w) (fun _ i _ => 2 - (intOf i).toNat)
  case atStart => exact ⟨0, Nat.zero_le _, rfl, rfl, rfl⟩
  case round =>
    obtain ⟨k, hk, rfl, rfl, rfl⟩ := hrel
    obtain rfl | rfl | rfl : k = 0 ∨ k = 1 ∨ k = 2 := by omega
    · have c0 := H0.out
      have hlen : (L.length : Int) ≤ 400 := by have := HL.out; omega
      have hs : wrap64 ((0 : Int) + (L.length : Int)) = (L.length : Int) := by unfold wrap64; omega
      simp only [part, List.length_nil]
      go_wp2
      go_round
      case rel => exact ⟨1, by omega, by go_num, by go_num, rfl⟩
      case measure => simp [intOf]
    · have c1 := H1.out
      have hlen : (L.length : Int) + (M.length : Int) ≤ 400 := by have := HL.out; omega
      have hs : wrap64 ((L.length : Int) + (M.length : Int)) = (L.length : Int) + (M.length : Int) := by unfold wrap64; omega
      simp only [part]
      go_wp2
      go_round
      case rel => exact ⟨2, by omega, by go_num, by simp [part], rfl⟩
      case measure => simp [intOf]
    · go_wp2_with fail
      refine (grow_any (part L M 2).length _ (by have := HP.out; simp [part]; omega) (by have := HL.out; simp [part]; omega)).mono ?_
      rintro e w1 ⟨g1, c1, rfl, ho, hb, hs⟩
      have HO := Lib.hid ho
      have HBl := Lib.hid hb
      clear ho hb
      go_wp2
      go_loopw [6, 27] (CatRel L M w) (fun _ i _ => 2 - (intOf i).toNat)
      case atStart => exact ⟨0, Nat.zero_le _, rfl, HO.out, HBl.out⟩
      case round =>
        obtain ⟨k, hk, rfl, ho, hb⟩ := hrel
        have HO := Lib.hid ho
        have HBl := Lib.hid hb
        clear ho hb
        obtain rfl | rfl | rfl : k = 0 ∨ k = 1 ∨ k = 2 := by omega
        · have c0 := (HBl.out.cell (cell_lt H0.out)).trans H0.out
          go_wp2_with (at_builtin; refine append_vars vt rfl _ _ rfl rfl HO.out _ _ L rfl rfl (HA.out.below HBl.out (Nat.le_refl _)) ?c1 ?c2 ?_)
          case c1 => have := HL.out; simp [part]; omega
          case c2 => exact HBl.out.size
          intro v' w2 ho2 hb2 hs2
          have HO2 := Lib.hid ho2
          have HB2 := Lib.hid (HBl.out.trans hb2)
          clear ho2 hb2
          go_wp2
          go_round
          case rel => exact ⟨1, by omega, by go_num, HO2.out, HB2.out⟩
          case measure => simp [intOf]
        · have c1 := (HBl.out.cell (cell_lt H1.out)).trans H1.out
          go_wp2_with (at_builtin; refine append_vars vt rfl _ _ rfl rfl HO.out _ _ M rfl rfl (HB.out.below HBl.out (Nat.le_refl _)) ?c1 ?c2 ?_)
          case c1 => have := HL.out; simp [part]; omega
          case c2 => exact HBl.out.size
          intro v' w2 ho2 hb2 hs2
          have HO2 := Lib.hid ho2
          have HB2 := Lib.hid (HBl.out.trans hb2)
          clear ho2 hb2
          go_wp2
          go_round
          case rel => exact ⟨2, by omega, by go_num, HO2.out, HB2.out⟩
          case measure => simp [intOf]
        · go_wp2
          go_ret
          exact ⟨_, rfl, HO.out, HBl.out⟩
theorem concat_slice (g : Nat) (A B : Option Addr) (c d : Nat) (L M : List Sp) (w : World) (h0 : w.cell? ⟨g, 0, none⟩ = some (.slice A L.length c)) (h1 : w.cell? ⟨g, 1, none⟩ = some (.slice B M.length d)) (hA : VarsAt w A L) (hB : VarsAt w B M) (hp : 0 < L.length + M.length) (hl : L.length + M.length ≤ 400) :
    Calls Tryz.prog 145 #[.slice (some ⟨g, 0, none⟩) 2 2] w fun e w' => ∃ T d, e = .returned (.slice T (L ++ M).length d) ∧ SlAt w' T d (L ++ M) ∧ Below w.heap.size w w' ∧ Fr w.heap.size T := by
  refine (concat_any g A B c d L M w h0 h1 hA hB hp hl).mono ?_
  rintro e w' ⟨v, rfl, ho, hb⟩
  obtain ⟨T, d, rfl, hv, hf⟩ := ho.slf
  exact ⟨T, d, rfl, hv, hb, hf⟩
theorem clone_slice (A : Option Addr) (c : Nat) (L : List Sp) (w : World) (h : VarsAt w A L) (hl : L.length ≤ 300) :
    Calls Tryz.prog 114 #[.slice A L.length c] w fun e w' => ∃ T d, e = .returned (.slice T L.length d) ∧ SlAt w' T d L ∧ Below w.heap.size w w' ∧ Fr w.heap.size T := by
  refine (clone_any A c L w h hl).mono ?_
  rintro e w' ⟨v, rfl, ho, hb⟩
  obtain ⟨T, d, rfl, hv, hf⟩ := ho.slf
  exact ⟨T, d, rfl, hv, hb, hf⟩
/-- a row and an error. -/
def AddPost (L : List Sp) (n : Int) (w : World) (e : Ending) (w' : World) : Prop := ∃ T c, e = .returned (.tuple #[.slice T L.length c, .int .i64 n]) ∧ SlAt w' T c L ∧ Below w.heap.size w w' ∧ Fr w.heap.size T
theorem addE_arg {L : List Sp} {s : Sp} (h : ¬ (0 ≤ s.x ∧ s.x < 64 ∧ right s.k s.n = true)) : addE L s = 2 ∧ addL L s = L := by
  have : addE L s = 2 := by unfold addE; rw [if_neg h]
  exact ⟨this, by unfold addL; rw [this, if_neg (by decide)]⟩
theorem addE_full {L : List Sp} {s : Sp} (h : 0 ≤ s.x ∧ s.x < 64 ∧ right s.k s.n = true) (hl : 200 ≤ L.length) : addE L s = 4 ∧ addL L s = L := by
  have : addE L s = 4 := by unfold addE; rw [if_pos h, if_pos hl]
  exact ⟨this, by unfold addL; rw [this, if_neg (by decide)]⟩
theorem addE_ok {L : List Sp} {s : Sp} (h : 0 ≤ s.x ∧ s.x < 64 ∧ right s.k s.n = true) (hl : ¬ 200 ≤ L.length) : addE L s = 0 ∧ addL L s = L ++ [s] := by
  have : addE L s = 0 := by unfold addE; rw [if_pos h, if_neg hl]
  exact ⟨this, by unfold addL; rw [this, if_pos rfl]⟩
set_option maxHeartbeats 2000000 in
set_option maxRecDepth 100000 in
theorem add_any (A : Option Addr) (c : Nat) (L : List Sp) (s : Sp) (w : World) (h : VarsAt w A L) (hl : L.length ≤ 300) (hs : s.ok) :
    Calls Tryz.prog 107 #[.slice A L.length c, .agg (stepA s)] w (AddPost (addL L s) (addE L s) w) := by
  have H := Lib.hid h
  have HS := Lib.hid hs
  have HL := Lib.hid hl
  clear h hs hl
  have HX := Lib.hid (stepAt_new w s 76)
  have HB0 := Lib.hid (below_new w (.cells (stepA s) 76))
  have c0 := HX.out.c0
  have c1 := HX.out.c1
  have c2 := HX.out.c2
  have c3 := HX.out.c3
  unfold stepA at *
  by_cases hx : 0 ≤ s.x
  · have hx0 : ¬ s.x < 0 := by omega
    by_cases hx1 : s.x < 64
    · have hx2 : ¬ (s.x ≥ 64) := by omega
      have HX2 := Lib.hid hx1
      have HX0 := Lib.hid hx
      cases hr : right s.k s.n with
      | false =>
        obtain ⟨e1, e2⟩ := addE_arg (L := L) (s := s) (fun h => by have := h.2.2; rw [hr] at this; cases this)
        rw [e1, e2]
        have HR := Lib.hid hr
        clear e1 e2 hr
        go_enter Tryz.func107, Tryz.ntmps107
        go_wp2_with fail
        refine (right_val _ _ _ _ HR.out).mono ?_
        rintro e w0 ⟨rfl, hb0⟩
        have HB1 := Lib.hid (HB0.out.trans (hb0.mono HB0.out.size))
        clear hb0
        go_wp2_with fail
        refine (clone_slice _ _ _ _ (H.out.below HB1.out (Nat.le_refl _)) HL.out).mono ?_
        rintro e w1 ⟨T, d, rfl, hv, hb, hfr⟩
        have HV := Lib.hid hv
        have HFR := Lib.hid (hfr.mono (show w.heap.size ≤ _ from HB1.out.size))
        have HB := Lib.hid (HB1.out.trans (hb.mono HB1.out.size))
        clear hv hb hfr
        go_wp2
        go_ret2
        exact ⟨_, _, rfl, HV.out, HB.out, HFR.out⟩
      | true =>
        have HR := Lib.hid hr
        clear hr
        by_cases hf : 200 ≤ L.length
        · obtain ⟨e1, e2⟩ := addE_full (L := L) (s := s) ⟨hx, hx1, HR.out⟩ hf
          rw [e1, e2]
          clear e1 e2
          have hf' : (L.length : Int) ≥ 200 := by omega
          go_enter Tryz.func107, Tryz.ntmps107
          go_wp2_with fail
          refine (right_val _ _ _ _ HR.out).mono ?_
          rintro e w0 ⟨rfl, hb0⟩
          have HB1 := Lib.hid (HB0.out.trans (hb0.mono HB0.out.size))
          clear hb0
          go_wp2_with fail
          refine (clone_slice _ _ _ _ (H.out.below HB1.out (Nat.le_refl _)) HL.out).mono ?_
          rintro e w1 ⟨T, d, rfl, hv, hb, hfr⟩
          have HV := Lib.hid hv
          have HFR := Lib.hid (hfr.mono (show w.heap.size ≤ _ from HB1.out.size))
          have HB := Lib.hid (HB1.out.trans (hb.mono HB1.out.size))
          clear hv hb hfr
          go_wp2
          go_ret2
          exact ⟨_, _, rfl, HV.out, HB.out, HFR.out⟩
        · obtain ⟨e1, e2⟩ := addE_ok (L := L) (s := s) ⟨hx, hx1, HR.out⟩ hf
          rw [e1, e2]
          clear e1 e2
          have hf' : ¬ (L.length : Int) ≥ 200 := by omega
          go_enter Tryz.func107, Tryz.ntmps107
          go_wp2_with fail
          refine (right_val _ _ _ _ HR.out).mono ?_
          rintro e w0 ⟨rfl, hb0⟩
          have HB1 := Lib.hid (HB0.out.trans (hb0.mono HB0.out.size))
          have HX1 := HX.out.below hb0 HX.out.lt
          have d0 := HX1.c0
          have d1 := HX1.c1
          have d2 := HX1.c2
          have d3 := HX1.c3
          clear hb0 HX1
          have HN := Lib.hid (new_vars w0 s 76 HS.out)
          unfold stepA at HN
          go_wp2_with fail
          refine (concat_slice _ A (some ⟨w0.heap.size, 0, none⟩) c 1 L [s] _ ?g0 ?g1 ?gA ?gB (by simp) (by simp; omega)).mono ?_
          case g0 => exact new_cell (size_new _ _) _ _ 0
          case g1 => exact new_cell (size_new _ _) _ _ 1
          case gA => exact ((H.out.below HB1.out (Nat.le_refl _)).alloc _).alloc _
          case gB => exact HN.out.alloc _
          rintro e w1 ⟨T, d, rfl, hv, hb, hfr⟩
          have HV := Lib.hid hv
          have HFR := Lib.hid (hfr.mono (show w.heap.size ≤ _ from (by have := HB1.out.size; simp; omega)))
          have HB := Lib.hid (((HB1.out.alloc HB1.out.size _).alloc (by have := HB1.out.size; simp; omega) _).trans (hb.mono (by have := HB1.out.size; simp; omega)))
          clear hv hb hfr
          go_wp2
          go_ret2
          exact ⟨_, _, by rw [List.length_append]; rfl, HV.out, HB.out, HFR.out⟩
    · have hx2 : s.x ≥ 64 := by omega
      obtain ⟨e1, e2⟩ := addE_arg (L := L) (s := s) (fun h => hx1 h.2.1)
      rw [e1, e2]
      clear e1 e2
      go_enter Tryz.func107, Tryz.ntmps107
      go_wp2_with fail
      refine (clone_slice _ _ _ _ (H.out.below HB0.out (Nat.le_refl _)) HL.out).mono ?_
      rintro e w1 ⟨T, d, rfl, hv, hb, hfr⟩
      have HV := Lib.hid hv
      have HFR := Lib.hid (hfr.mono (show w.heap.size ≤ _ from HB0.out.size))
      have HB := Lib.hid (HB0.out.trans (hb.mono HB0.out.size))
      clear hv hb hfr
      go_wp2
      go_ret2
      exact ⟨_, _, rfl, HV.out, HB.out, HFR.out⟩
  · have hxn : s.x < 0 := by omega
    obtain ⟨e1, e2⟩ := addE_arg (L := L) (s := s) (fun h => hx h.1)
    rw [e1, e2]
    clear e1 e2
    go_enter Tryz.func107, Tryz.ntmps107
    go_wp2_with fail
    refine (clone_slice _ _ _ _ (H.out.below HB0.out (Nat.le_refl _)) HL.out).mono ?_
    rintro e w1 ⟨T, d, rfl, hv, hb, hfr⟩
    have HV := Lib.hid hv
    have HFR := Lib.hid (hfr.mono (show w.heap.size ≤ _ from HB0.out.size))
    have HB := Lib.hid (HB0.out.trans (hb.mono HB0.out.size))
    clear hv hb hfr
    go_wp2
    go_ret2
    exact ⟨_, _, rfl, HV.out, HB.out, HFR.out⟩
set_option maxHeartbeats 1000000 in
theorem write_any (A : Option Addr) (c : Nat) (L : List Sp) (x k n : Int) (w : World) (h : VarsAt w A L) (hl : L.length ≤ 300) (hx : i64p x) (hk : i64p k) (hn : i64p n) :
    Calls Tryz.prog 69 #[.slice A L.length c, .int .i64 x, .agg #[.int .i64 k, .int .i64 n]] w (AddPost (addL L ⟨x, k, n, true⟩) (addE L ⟨x, k, n, true⟩) w) := by
  have HB0 := Lib.hid (below_new w (.cells #[.int .i64 k, .int .i64 n] 71))
  have H := Lib.hid (add_any A c L ⟨x, k, n, true⟩ _ (h.below HB0.out (Nat.le_refl _)) hl ⟨hx, hk, hn⟩)
  clear h hx hk hn hl
  go_enter Tryz.func69, Tryz.ntmps69
  go_wp2_with fail
  refine H.out.mono ?_
  rintro e w1 ⟨T, d, rfl, hv, hb, hfr⟩
  have HV := Lib.hid hv
  have HFR := Lib.hid (hfr.mono (show w.heap.size ≤ _ from HB0.out.size))
  have HB := Lib.hid (HB0.out.trans (hb.mono HB0.out.size))
  clear hv hb hfr
  go_wp2
  go_ret2
  exact ⟨_, _, rfl, HV.out, HB.out, HFR.out⟩
set_option maxHeartbeats 1000000 in
theorem read_any (A : Option Addr) (c : Nat) (L : List Sp) (x k n : Int) (w : World) (h : VarsAt w A L) (hl : L.length ≤ 300) (hx : i64p x) (hk : i64p k) (hn : i64p n) :
    Calls Tryz.prog 65 #[.slice A L.length c, .int .i64 x, .agg #[.int .i64 k, .int .i64 n]] w (AddPost (addL L ⟨x, k, n, false⟩) (addE L ⟨x, k, n, false⟩) w) := by
  have HB0 := Lib.hid (below_new w (.cells #[.int .i64 k, .int .i64 n] 71))
  have H := Lib.hid (add_any A c L ⟨x, k, n, false⟩ _ (h.below HB0.out (Nat.le_refl _)) hl ⟨hx, hk, hn⟩)
  clear h hx hk hn hl
  go_enter Tryz.func65, Tryz.ntmps65
  go_wp2_with fail
  refine H.out.mono ?_
  rintro e w1 ⟨T, d, rfl, hv, hb, hfr⟩
  have HV := Lib.hid hv
  have HFR := Lib.hid (hfr.mono (show w.heap.size ≤ _ from HB0.out.size))
  have HB := Lib.hid (HB0.out.trans (hb.mono HB0.out.size))
  clear hv hb hfr
  go_wp2
  go_ret2
  exact ⟨_, _, rfl, HV.out, HB.out, HFR.out⟩
end Go.Proofs.YtfdfiiocccafkaaGreatDoor.Tx
namespace Go.Proofs.YtfdfiiocccafkaaGreatDoor.Tx
open Go.RowKit
def keep (L : List Sp) (k j : Nat) : List Sp := L.take k ++ ((L.drop k).take j).filter (fun s => !s.wr)
theorem keep_zero (L : List Sp) (k : Nat) : keep L k 0 = L.take k := by simp [keep]
theorem keep_all {L : List Sp} {k j : Nat} (h : L.length - k ≤ j) : keep L k j = backL L k := by
  unfold keep backL; rw [List.take_of_length_le (l := L.drop k) (by simp; omega)]
theorem keep_yes {L : List Sp} {k j : Nat} {s : Sp} (h : (L.drop k)[j]? = some s) (hw : s.wr = false) : keep L k (j + 1) = keep L k j ++ [s] := by
  unfold keep; rw [take_step h, List.filter_append, List.append_assoc]; simp [hw]
theorem keep_no {L : List Sp} {k j : Nat} {s : Sp} (h : (L.drop k)[j]? = some s) (hw : s.wr = true) : keep L k (j + 1) = keep L k j := by
  unfold keep; rw [take_step h, List.filter_append]; simp [hw]
theorem keep_len (L : List Sp) (k j : Nat) : (keep L k j).length ≤ L.length := by
  unfold keep
  have h1 := List.length_filter_le (fun s : Sp => !s.wr) ((L.drop k).take j)
  simp at h1 ⊢
  omega
def BackRel (L : List Sp) (k : Nat) (w : World) (v i : Value) (wr : World) : Prop := ∃ j : Nat, j ≤ L.length - k ∧ i = .int .i64 j ∧ OwnVars wr w.heap.size 76 v (keep L k j) ∧ Below w.heap.size w wr
theorem VarsAt.takeA {w : World} {A : Option Addr} {L : List Sp} (h : VarsAt w A L) (x : Nat) : VarsAt w A (L.take x) := by
  rcases A with _ | ad
  · obtain rfl := h.nil_
    simpa using h
  · exact h.take x
theorem clone_row (A : Option Addr) (c m : Nat) (L : List Sp) (w : World) (h : VarsAt w A L) (hl : L.length ≤ 300) (hm : L.length = m) :
    Calls Tryz.prog 114 #[.slice A m c] w (RowPost L 76 w) := by
  subst hm; exact clone_any A c L w h hl
set_option maxHeartbeats 2000000 in
set_option maxRecDepth 100000 in
theorem back_yes (A : Option Addr) (c k : Nat) (L : List Sp) (w : World) (h : VarsAt w A L) (hc : L.length ≤ c) (hm : c ≤ maxLen) (hl : L.length ≤ 300) (hk : k ≤ L.length) :
    Calls Tryz.prog 73 #[.slice A L.length c, .int .i64 (k : Nat)] w (AddPost (backL L k) 0 w) := by
  have H := Lib.hid h
  have HC := Lib.hid hc
  have HL := Lib.hid hl
  have HK := Lib.hid hk
  unfold maxLen at hm
  clear h
  have hk0 : ¬ (k : Int) < 0 := by omega
  have hk1 : ¬ (k : Int) > (L.length : Int) := by omega
  have hk2 : (k : Int) ≤ (c : Int) := by omega
  rcases A with _ | ad
  · obtain rfl := H.out.nil_
    obtain rfl : k = 0 := by simpa using hk
    go_enter Tryz.func73, Tryz.ntmps73
    go_wp2_with fail
    refine (clone_row _ _ 0 [] _ H.out (by simp) rfl).mono ?_
    rintro e w1 ⟨v, rfl, ho, hb⟩
    have HO := Lib.hid ho
    have HB := Lib.hid hb
    clear ho hb
    go_wp2
    go_loopw [6, 27] (BackRel [] 0 w) (fun _ i _ => 0 - (intOf i).toNat)
    case atStart => exact ⟨0, Nat.zero_le _, rfl, by rw [keep_zero]; exact HO.out, HB.out⟩
    case round =>
      obtain ⟨j, hj, rfl, ho, hb⟩ := hrel
      obtain rfl : j = 0 := by simpa using hj
      have HO := Lib.hid ho
      have HB := Lib.hid hb
      clear ho hb
      go_wp2
      have ho := HO.out
      rw [keep_all (by simp)] at ho
      obtain ⟨T, d, rfl, hv, hfr⟩ := ho.slf
      go_ret2
      exact ⟨_, _, rfl, hv, HB.out, hfr⟩
  · have HT := Lib.hid (H.out.take k)
    have HTL := Lib.hid (show (L.take k).length = k by simp; omega)
    by_cases hck : c = k
    · have h0 : L.drop k = [] := List.drop_of_length_le (by omega)
      have hlk : L.length = k := by omega
      have hlen : L.length - k = 0 := by omega
      have hlen' : (L.length : Int) - (k : Int) = 0 := by omega
      subst hck
      rw [hlk] at hk1 ⊢
      go_enter Tryz.func73, Tryz.ntmps73
      go_wp2_with fail
      refine (clone_row _ _ _ (L.take c) _ HT.out (by have := HL.out; simp; omega) HTL.out).mono ?_
      rintro e w1 ⟨v, rfl, ho, hb⟩
      have HO := Lib.hid ho
      have HB := Lib.hid hb
      clear ho hb
      go_wp2
      go_loopw [6, 27] (BackRel L c w) (fun _ i _ => 0 - (intOf i).toNat)
      case atStart => exact ⟨0, Nat.zero_le _, rfl, by rw [keep_zero]; exact HO.out, HB.out⟩
      case round =>
        obtain ⟨j, hj, rfl, ho, hb⟩ := hrel
        obtain rfl : j = 0 := by omega
        have HO := Lib.hid ho
        have HB := Lib.hid hb
        clear ho hb
        go_wp2
        have ho := HO.out
        rw [keep_all (by omega)] at ho
        obtain ⟨T, d, rfl, hv, hfr⟩ := ho.slf
        go_ret2
        exact ⟨_, _, rfl, hv, HB.out, hfr⟩
    · have HD := Lib.hid (H.out.drop k)
      have hlt : (k : Int) < (c : Int) := by omega
      go_enter Tryz.func73, Tryz.ntmps73
      go_wp2_with fail
      refine (clone_row _ _ _ (L.take k) _ HT.out (by have := HL.out; simp; omega) HTL.out).mono ?_
      rintro e w1 ⟨v, rfl, ho, hb⟩
      have HO := Lib.hid ho
      have HB := Lib.hid hb
      clear ho hb
      go_wp2
      generalize ad.add (k * 4) = ad2 at HD ⊢
      go_loopw [6, 27] (BackRel L k w) (fun _ i _ => L.length - k - (intOf i).toNat)
      case atStart => exact ⟨0, Nat.zero_le _, rfl, by rw [keep_zero]; exact HO.out, HB.out⟩
      case round =>
        obtain ⟨j, hj, rfl, ho, hb⟩ := hrel
        have HO := Lib.hid ho
        have HB := Lib.hid hb
        clear ho hb
        by_cases hlt2 : j < L.length - k
        · obtain ⟨ad3, z, e3, hv, hok, h4⟩ := (HD.out.below HB.out (Nat.le_refl _)).at_ (j := j) (by simp; omega)
          obtain ⟨c0, c1, c2, c3⟩ := h4
          cases e3
          have HV := Lib.hid hv
          have HOK := Lib.hid hok
          clear hv hok
          have hlt' : (j : Int) < ((L.length - k : Nat) : Int) := by omega
          have HX := Lib.hid (stepAt_new wr z 76)
          have d0 := HX.out.c0
          have d1 := HX.out.c1
          have d2 := HX.out.c2
          have d3 := HX.out.c3
          unfold stepA at d0 d1 d2 d3
          cases hw : z.wr with
          | false =>
            have HW := Lib.hid hw
            rw [hw] at c3 d0 d1 d2 d3
            have HN := Lib.hid (new_vars' (w := wr.alloc (.cells (stepA z) 76)) (size_new _ _) z 76 HOK.out)
            unfold stepA at HN
            rw [hw] at HN
            clear hw
            go_wp2_with (at_builtin; refine append_vars vt rfl _ _ rfl rfl ((HO.out.alloc _).alloc _) _ _ [z] rfl rfl HN.out ?c1 ?c2 ?_)
            case c1 => have := keep_len L k j; simp; omega
            case c2 => have := HB.out.size; simp; omega
            intro v' w2 ho2 hb2 hs2
            have HO2 := Lib.hid ho2
            have HB2 := Lib.hid (((HB.out.alloc HB.out.size _).alloc (by have := HB.out.size; simp; omega) _).trans hb2)
            clear ho2 hb2
            go_wp2
            go_round
            case rel => exact ⟨j + 1, by omega, by go_num, by rw [keep_yes HV.out HW.out]; exact HO2.out, HB2.out⟩
            case measure => simp [intOf]; omega
          | true =>
            have HW := Lib.hid hw
            rw [hw] at c3 d0 d1 d2 d3
            clear hw
            go_wp2
            go_round
            case rel => exact ⟨j + 1, by omega, by go_num, by rw [keep_no HV.out HW.out]; exact HO.out.alloc _, HB.out.alloc HB.out.size _⟩
            case measure => simp [intOf]; omega
        · have hlt' : ¬ (j : Int) < ((L.length - k : Nat) : Int) := by omega
          go_wp2
          have ho := HO.out
          rw [keep_all (by omega)] at ho
          obtain ⟨T, d, rfl, hv, hfr⟩ := ho.slf
          go_ret2
          exact ⟨_, _, rfl, hv, HB.out, hfr⟩
set_option maxHeartbeats 1000000 in
theorem back_no (A : Option Addr) (c : Nat) (L : List Sp) (to : Int) (w : World) (h : VarsAt w A L) (hl : L.length ≤ 300) (ht : ¬ (0 ≤ to ∧ to ≤ (L.length : Int))) :
    Calls Tryz.prog 73 #[.slice A L.length c, .int .i64 to] w (AddPost L 2 w) := by
  have H := Lib.hid h
  have HL := Lib.hid hl
  clear h hl
  by_cases h0 : to < 0
  · go_enter Tryz.func73, Tryz.ntmps73
    go_wp2_with fail
    refine (clone_slice _ _ _ _ H.out HL.out).mono ?_
    rintro e w1 ⟨T, d, rfl, hv, hb, hfr⟩
    have HV := Lib.hid hv
    have HFR := Lib.hid (hfr.mono (show w.heap.size ≤ _ from (Nat.le_refl _)))
    have HB := Lib.hid hb
    clear hv hb hfr
    go_wp2
    go_ret2
    exact ⟨_, _, rfl, HV.out, HB.out, HFR.out⟩
  · have h1 : to > (L.length : Int) := by omega
    clear ht
    go_enter Tryz.func73, Tryz.ntmps73
    go_wp2_with fail
    refine (clone_slice _ _ _ _ H.out HL.out).mono ?_
    rintro e w1 ⟨T, d, rfl, hv, hb, hfr⟩
    have HV := Lib.hid hv
    have HFR := Lib.hid (hfr.mono (show w.heap.size ≤ _ from (Nat.le_refl _)))
    have HB := Lib.hid hb
    clear hv hb hfr
    go_wp2
    go_ret2
    exact ⟨_, _, rfl, HV.out, HB.out, HFR.out⟩
end Go.Proofs.YtfdfiiocccafkaaGreatDoor.Tx
