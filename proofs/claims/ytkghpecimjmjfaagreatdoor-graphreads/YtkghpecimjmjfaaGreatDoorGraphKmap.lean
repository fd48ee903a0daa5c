/-
  Maps of values by two numbers.
-/
import Derived.Test.YtkghpecimjmjfaaGreatDoorGraphTime2
import Derived.WideKeyPair
import Derived.DeepKeys4
namespace Go.Proofs.YtkghpecimjmjfaaGreatDoor.En
open Go.RowKit
open Go.Maps (Keyed)
attribute [local go_sem ↓] Go.wp_at_zero Go.wp_at_succ
theorem pairLaid : laidOutB Tryz.prog = true := by kernel_rfl
theorem pairRow : (94 : TypeId) < Tryz.prog.types.size := of_decide_eq_true (by kernel_rfl)
theorem pairCells : Tryz.prog.cellsOf 94 = 2 := by kernel_rfl
theorem pairArr : WideMaps.ArrKey Tryz.prog 94 3 2 := ⟨Tryz.underlying94, by kernel_rfl, by kernel_rfl, pairCells⟩
theorem pairDeep : Tryz.prog.keyTypeAt 2 94 = true := by kernel_rfl
theorem pairKeyed : Keyed Tryz.prog 94 := Keyed.of_law (deep_law_laid pairLaid (m := 2) (by omega) pairRow pairDeep (by rw [Tryz.underlying94]))
theorem pos_succ {n k : Nat} (h : k < n) : ∃ m, n = m + 1 := ⟨n - 1, by omega⟩
theorem pairTypes : ∃ m, Tryz.prog.types.size = m + 1 := pos_succ pairRow
def pairV (a b : Int) : Value := .agg #[.int .i64 a, .int .i64 b]
noncomputable def pairK (a b : Int) : Lit := .string (keyBytes [.int .i64 a, .int .i64 b])
theorem pair_key {a b : Int} (ha : St.i64p a) (hb : St.i64p b) : keyOf Tryz.prog 94 (pairV a b) = some (pairK a b) :=
  WideMaps.keyOf_pair pairArr Tryz.underlying3 pairTypes (Tx.wf_i64 ha) (Tx.wf_i64 hb)
theorem pair_apart {a b c d : Int} (ha : St.i64p a) (hb : St.i64p b) (hc : St.i64p c) (hd : St.i64p d) (h : pairK a b = pairK c d) : a = c ∧ b = d := by
  have h1 := pair_key ha hb
  have h2 := pair_key hc hd
  rw [← h] at h2
  have h3 := pairKeyed.inj h1 h2
  unfold pairV at h3
  injection h3 with h3
  simpa using h3
def rvalA (v : Int × Int) : Value := .agg #[.int .i64 v.1, .int .i64 v.2]
/-- the block b is a map of at most n entries; at x and y it has f x y. -/
def MapK (W : World) (b n : Nat) (f : Int → Int → Option (Int × Int)) : Prop :=
  ∃ D : DataW Value, W.ownsMap Tryz.prog 94 Tx.heldR b n D ∧ Maps.Tidy D ∧ (∀ x y, St.i64p x → St.i64p y → Maps.has D (pairK x y) = (f x y).isSome) ∧ ∀ x y, St.i64p x → St.i64p y → D.atKey (pairK x y) (.held (rvalA (0, 0))) = .held (rvalA ((f x y).getD (0, 0)))
section
variable {W W' : World} {b n : Nat} {f : Int → Int → Option (Int × Int)}
theorem MapK.lt (h : MapK W b n f) : b < W.heap.size := by
  obtain ⟨D, ho, _⟩ := h
  exact ho.lt
theorem MapK.obj (h : MapK W b n f) : ∃ es clock, W.heap[b]? = some (.map es clock) := by
  obtain ⟨D, ⟨es, clock, hh, _⟩, _⟩ := h
  exact ⟨es, clock, hh⟩
theorem mapK_made (W : World) : MapK (W.alloc (.map #[] 0)) W.heap.size 0 (fun _ _ => none) :=
  ⟨.map [], World.ownsMap_made W _ _ _, Maps.tidy_empty, fun _ _ _ _ => rfl, fun _ _ _ _ => rfl⟩
theorem MapK.other (h : MapK W b n f) (e : W'.heap[b]? = W.heap[b]?) : MapK W' b n f := by
  obtain ⟨D, ⟨es, clock, hh, F, hs, hD⟩, hm⟩ := h
  exact ⟨D, ⟨es, clock, e.trans hh, F, hs, hD⟩, hm⟩
theorem MapK.below (h : MapK W b n f) (hb : Below W.heap.size W W') : MapK W' b n f := h.other (hb.block b h.lt)
theorem MapK.mono {m : Nat} (h : MapK W b n f) (hm : n ≤ m) : MapK W b m f := by
  obtain ⟨D, ho, hr⟩ := h
  exact ⟨D, ho.mono hm, hr⟩
theorem zero_rval (w : World) : (zeroValue 43).run Tryz.prog w = .ok (rvalA (0, 0)) w := (zero_of_info rval_info).1 w
theorem MapK.look (h : MapK W b n f) {x y : Int} (hx : St.i64p x) (hy : St.i64p y) : (Instr.lookup 93 (.map (some b)) (pairV x y) true).run Tryz.prog W = .ok (.tuple #[rvalA ((f x y).getD (0, 0)), .bool (f x y).isSome]) W := by
  obtain ⟨D, ho, _, hh, ha⟩ := h
  obtain ⟨v, ps, hrun, hv⟩ := ho.look_ok pairKeyed Tryz.underlying93 (zero_rval W) (zd := .held (rvalA (0, 0))) (zp := []) rfl (pair_key hx hy)
  rw [ha x y hx hy] at hv
  simp only [Tx.heldR, Option.some.injEq, Prod.mk.injEq, DataW.held.injEq] at hv
  rw [hrun, hh x y hx hy, hv.1]
theorem MapK.update (h : MapK W b n f) (hn : n < 4096) {x y : Int} (hx : St.i64p x) (hy : St.i64p y) (v : Int × Int) :
    ∃ W', (Instr.mapUpdate 93 (.map (some b)) (pairV x y) (rvalA v)).run Tryz.prog W = .ok () W' ∧ MapK W' b (n + 1) (kput f x y v) ∧ W.grownBy W' (some b) := by
  obtain ⟨D, ho, ht', hh, ha⟩ := h
  obtain ⟨W', hrun, r1, r2⟩ := ho.update pairKeyed Tryz.underlying93 (by unfold maxLen; omega) (pair_key hx hy) (val := rvalA v) (d := .held (rvalA v)) (ps := []) rfl
  refine ⟨W', hrun, ⟨_, r1, ht'.put (by simp [WideAt.IsKeyLit, pairK]) _, ?_, ?_⟩, r2⟩
  · intro j z hj hz
    unfold kput
    by_cases e : j = x ∧ z = y
    · obtain ⟨rfl, rfl⟩ := e
      rw [if_pos ⟨rfl, rfl⟩, Maps.has_put_same ht'.isMap (by simp [WideAt.IsKeyLit, pairK])]; rfl
    · rw [if_neg e, Maps.has_put_other (fun e2 => e (pair_apart hj hz hx hy e2)), hh j z hj hz]
  · intro j z hj hz
    unfold kput
    by_cases e : j = x ∧ z = y
    · obtain ⟨rfl, rfl⟩ := e
      rw [if_pos ⟨rfl, rfl⟩, Maps.atKey_put_same ht'.isMap (by simp [WideAt.IsKeyLit, pairK])]; rfl
    · rw [if_neg e, Maps.atKey_put_other (fun e2 => e (pair_apart hj hz hx hy e2)), ha j z hj hz]
end
theorem wpList_putK {w : World} {ops : Array Oper} {rest : List Oper} {o : Oper} {a : Go.Act} {Q : Exit → Go.Act → World → Prop} (hg : o.guard = none) (m x v : Operand) (hop : o.op = Op.mapUpdate 93 m x v)
    (b n : Nat) (f : Int → Int → Option (Int × Int)) (hm : a.eval m = .map (some b)) (h : MapK w b n f) (hn : n < 4096) (y z : Int) (u : Int × Int) (hx : a.eval x = pairV y z) (hv : a.eval v = rvalA u) (hy : St.i64p y) (hz : St.i64p z)
    (hK : ∀ w', MapK w' b (n + 1) (kput f y z u) → w.grownBy w' (some b) → wpList Tryz.prog ops Q rest (a.put o.dst undef) w') : wpList Tryz.prog ops Q (o :: rest) a w := by
  refine wpList_plain hg fun K' hK' => ?_
  obtain ⟨w', hrun, r1, r2⟩ := h.update hn hy hz u
  unfold Oper.wp
  simp [execOp, hop, hm, hx, hv, hrun, Result.andThen]
  exact hK' _ _ (hK w' r1 r2)
end Go.Proofs.YtkghpecimjmjfaaGreatDoor.En
