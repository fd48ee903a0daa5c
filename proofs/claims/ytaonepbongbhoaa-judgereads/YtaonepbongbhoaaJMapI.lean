/-
  Maps of whole numbers by two whole numbers: look-ups, and one more at a key.
-/
import Derived.Test.YtaonepbongbhoaaKB
import Derived.Maps.OwnSet
import Derived.WideKeyPair
import Derived.WideKeyEntry
import Derived.DeepKeys4
namespace Go.Proofs.Ytaonepbongbhoaa.Jd
open Go.RowKit
open Go.Maps (Keyed)
open Tx (i64p)
theorem pairLaid : laidOutB Try.prog = true := by kernel_rfl
theorem pairRow : (54 : TypeId) < Try.prog.types.size := of_decide_eq_true (by kernel_rfl)
theorem pairCells : Try.prog.cellsOf 54 = 2 := by kernel_rfl
theorem pairArr : WideMaps.ArrKey Try.prog 54 3 2 := ⟨Try.underlying54, by kernel_rfl, by kernel_rfl, pairCells⟩
theorem pairDeep : Try.prog.keyTypeAt 2 54 = true := by kernel_rfl
theorem pairLaw : WideMaps.KeyLaw Try.prog 54 := deep_law_laid pairLaid (m := 2) (by omega) pairRow pairDeep (by rw [Try.underlying54])
theorem pairKeyed : Keyed Try.prog 54 := Keyed.of_law pairLaw
theorem pos_succ {n k : Nat} (h : k < n) : ∃ m, n = m + 1 := ⟨n - 1, by omega⟩
theorem pairTypes : ∃ m, Try.prog.types.size = m + 1 := pos_succ pairRow
def pairV (a b : Int) : Value := .agg #[.int .i64 a, .int .i64 b]
noncomputable def pairK (a b : Int) : Lit := .string (keyBytes [.int .i64 a, .int .i64 b])
theorem wf64 {a : Int} (h : i64p a) : (Lit.int .i64 a).wf = true := WalkArith.wf_i64 (by unfold Tx.i64p at h; omega)
theorem pair_key {a b : Int} (ha : i64p a) (hb : i64p b) : keyOf Try.prog 54 (pairV a b) = some (pairK a b) :=
  WideMaps.keyOf_pair pairArr Try.underlying3 pairTypes (wf64 ha) (wf64 hb)
theorem pair_apart {a b c d : Int} (ha : i64p a) (hb : i64p b) (hc : i64p c) (hd : i64p d) (h : pairK a b = pairK c d) : a = c ∧ b = d := by
  have h1 := pair_key ha hb
  have h2 := pair_key hc hd
  rw [← h] at h2
  have h3 := pairKeyed.inj h1 h2
  unfold pairV at h3
  injection h3 with h3
  simpa using h3
theorem ok_val {α : Type} {a b : α} {v w : World} (h : (Result.ok a v : Result α) = .ok b w) : a = b := (Result.ok.inj h).1
theorem ok_world {α : Type} {a b : α} {v w : World} (h : (Result.ok a v : Result α) = .ok b w) : v = w := (Result.ok.inj h).2
theorem val_int {a b : Int} (h : Value.int .i64 a = .int .i64 b) : a = b := (Value.int.inj h).2
/-- an element as it stands. -/
def heldV (v : Value) : Option (DataW Value × List MemPlace) := some (.held v, [])
def kput (f : Int → Int → Int) (x y z : Int) : Int → Int → Int := fun j k => if j = x ∧ k = y then z else f j k
theorem kput_same {f : Int → Int → Int} {x y z : Int} (h : f x y = z) : kput f x y z = f := by
  funext j k
  unfold kput
  by_cases e : j = x ∧ k = y
  · rw [if_pos e, e.1, e.2, h]
  · rw [if_neg e]
/-- the block b is a map of at most n entries; at x and y it has f x y, nought where nothing is. -/
def MapJ (W : World) (b n : Nat) (f : Int → Int → Int) : Prop :=
  ∃ D : DataW Value, W.ownsMap Try.prog 54 heldV b n D ∧ Maps.Tidy D ∧ ∀ x y, i64p x → i64p y → D.atKey (pairK x y) (.held (.int .i64 0)) = .held (.int .i64 (f x y))
section
variable {W W' : World} {b n : Nat} {f : Int → Int → Int}
theorem MapJ.lt (h : MapJ W b n f) : b < W.heap.size := by
  obtain ⟨D, ho, _⟩ := h
  exact ho.lt
theorem mapJ_made (W : World) : MapJ (W.alloc (.map #[] 0)) W.heap.size 0 (fun _ _ => 0) :=
  ⟨.map [], World.ownsMap_made W _ _ _, Maps.tidy_empty, fun _ _ _ _ => rfl⟩
theorem MapJ.other (h : MapJ W b n f) (e : W'.heap[b]? = W.heap[b]?) : MapJ W' b n f := by
  obtain ⟨D, ⟨es, clock, hh, F, hs, hD⟩, hm⟩ := h
  exact ⟨D, ⟨es, clock, e.trans hh, F, hs, hD⟩, hm⟩
theorem MapJ.below (h : MapJ W b n f) (hb : Below W.heap.size W W') : MapJ W' b n f := h.other (hb.block b h.lt)
theorem MapJ.mono {m : Nat} (h : MapJ W b n f) (hm : n ≤ m) : MapJ W b m f := by
  obtain ⟨D, ho, hr⟩ := h
  exact ⟨D, ho.mono hm, hr⟩
theorem zero_int (w : World) : (zeroValue 3).run Try.prog w = .ok (.int .i64 0) w := by kernel_rfl
theorem MapJ.look (h : MapJ W b n f) {x y : Int} (hx : i64p x) (hy : i64p y) : (Instr.lookup 51 (.map (some b)) (pairV x y) false).run Try.prog W = .ok (.int .i64 (f x y)) W := by
  obtain ⟨D, ho, _, ha⟩ := h
  obtain ⟨v, ps, hrun, hv⟩ := ho.lookup pairKeyed Try.underlying51 (zero_int W) (zd := .held (.int .i64 0)) (zp := []) rfl (pair_key hx hy)
  rw [ha x y hx hy] at hv
  simp only [heldV, Option.some.injEq, Prod.mk.injEq, DataW.held.injEq] at hv
  rw [hrun, hv.1]
theorem MapJ.update (h : MapJ W b n f) (hn : n < 4096) {x y : Int} (hx : i64p x) (hy : i64p y) (z : Int) :
    ∃ W', (Instr.mapUpdate 51 (.map (some b)) (pairV x y) (.int .i64 z)).run Try.prog W = .ok () W' ∧ MapJ W' b (n + 1) (kput f x y z) ∧ W.grownBy W' (some b) := by
  obtain ⟨D, ho, ht', ha⟩ := h
  obtain ⟨W', hrun, r1, r2⟩ := ho.update pairKeyed Try.underlying51 (by unfold maxLen; omega) (pair_key hx hy) (val := .int .i64 z) (d := .held (.int .i64 z)) (ps := []) rfl
  refine ⟨W', hrun, ⟨_, r1, ht'.put (by simp [WideAt.IsKeyLit, pairK]) _, ?_⟩, r2⟩
  intro j k hj hk
  unfold kput
  by_cases e : j = x ∧ k = y
  · obtain ⟨rfl, rfl⟩ := e
    rw [if_pos ⟨rfl, rfl⟩, Maps.atKey_put_same ht'.isMap (by simp [WideAt.IsKeyLit, pairK])]
  · rw [if_neg e, Maps.atKey_put_other (fun e2 => e (pair_apart hj hk hx hy e2)), ha j k hj hk]
theorem block_same {W : World} {b : Nat} {o : Obj} (h : b < W.heap.size) : (ChangeMaps.setBlock W b o).heap[b]? = some o := by simp [ChangeMaps.setBlock, h]
theorem block_other {W : World} {b j : Nat} {o : Obj} (h : j ≠ b) : (ChangeMaps.setBlock W b o).heap[j]? = W.heap[j]? := by
  simp [ChangeMaps.setBlock, Ne.symm h]
theorem block_grown (W : World) (b : Nat) (o : Obj) : W.grownBy (ChangeMaps.setBlock W b o) (some b) :=
  ⟨rfl, rfl, rfl, by simp [ChangeMaps.setBlock], fun j _ hj => block_other (fun e => hj (by rw [e]))⟩
/-- the place of a key, and what is stored there. -/
theorem MapJ.entry (h : MapJ W b n f) (hn : n < 4096) {x y : Int} (hx : i64p x) (hy : i64p y) (z : Int) :
    ∃ (v0 : Value) (st : Int) (W1 W2 : World), (Instr.mapEntry 51 (.map (some b)) (pairV x y)).run Try.prog W = .ok (.tuple #[v0, .int .i64 st]) W1 ∧ MapJ W1 b (n + 1) f ∧ W.grownBy W1 (some b) ∧
      (Instr.entryStore 51 (.map (some b)) (.int .i64 st) (.int .i64 z)).run Try.prog W1 = .ok () W2 ∧ MapJ W2 b (n + 1) (kput f x y z) ∧ W1.grownBy W2 (some b) := by
  have hkey := pair_key hx hy
  have hlook := h.look hx hy
  have hup := h.update hn hx hy z
  have hup0 := h.update hn hx hy 0
  have hmono := h.mono (Nat.le_succ n)
  have hlt := h.lt
  obtain ⟨D, ⟨es, clock, hb, F, hs, hD⟩, _⟩ := h
  obtain ⟨v0, st, es1, clock1, r1, _, r3⟩ := WideElems.entry_then_store pairLaw Try.underlying51 (z := .int .i64 0) zero_int hb F hkey
  obtain ⟨es', clock', s1, s2⟩ := r3 (ChangeMaps.setBlock W b (.map es1 clock1)) (.int .i64 z) (block_same hlt)
  obtain ⟨W2, u1, u2, u3⟩ := hup
  have hW2 : W2 = ChangeMaps.setBlock W b (.map es' clock') := by
    rw [s2] at u1
    exact (ok_world u1).symm
  refine ⟨v0, _, _, _, r1, ?_, block_grown _ _ _, s1, ?_, block_grown _ _ _⟩
  · -- the map reads as it did
    rcases pairLaw.find W hkey es.toList F.keys with ⟨h1, h2⟩ | ⟨j, e0, h1, h2, h3⟩
    · have hz : f x y = 0 := by
        have : (Instr.lookup 51 (.map (some b)) (pairV x y) false).run Try.prog W = .ok (.int .i64 0) W := by
          simp [Instr.lookup, run_underlying Try.underlying51, MapKept.run_getObj_map hb, pairLaw.check W _ hkey, h1, Result.andThen]
        rw [this] at hlook
        exact (val_int (ok_val hlook)).symm
      obtain ⟨W0, q1, q2, _⟩ := hup0
      rw [kput_same hz] at q2
      have e1 : W0 = ChangeMaps.setBlock W b (.map (es.push ⟨pairV x y, .int .i64 0, clock⟩) (clock + 1)) := by
        have : (Instr.mapUpdate 51 (.map (some b)) (pairV x y) (.int .i64 0)).run Try.prog W = .ok () (ChangeMaps.setBlock W b (.map (es.push ⟨pairV x y, .int .i64 0, clock⟩) (clock + 1))) := by
          simp [Instr.mapUpdate, run_underlying Try.underlying51, MapKept.run_getObj_map hb, pairLaw.check W false hkey, h1, MapKept.run_setObj_map _ hb, Result.andThen, ChangeMaps.setBlock]
        rw [this] at q1
        exact (ok_world q1).symm
      have e2 : ChangeMaps.setBlock W b (.map es1 clock1) = ChangeMaps.setBlock W b (.map (es.push ⟨pairV x y, .int .i64 0, clock⟩) (clock + 1)) := by
        have : (Instr.mapEntry 51 (.map (some b)) (pairV x y)).run Try.prog W = .ok (.tuple #[.int .i64 0, goInt clock]) (ChangeMaps.setBlock W b (.map (es.push ⟨pairV x y, .int .i64 0, clock⟩) (clock + 1))) := by
          simp [Instr.mapEntry, run_underlying Try.underlying51, MapKept.run_getObj_map hb, pairLaw.check W false hkey, h1, MapKept.run_setObj_map _ hb, Result.andThen, ChangeMaps.setBlock]
        rw [this] at r1
        exact (ok_world r1).symm
      rw [e2, ← e1]
      exact q2
    · have hj : es[j]? = some e0 := by simpa using h2
      have hsame : es.modify j (fun e => { e with key := pairV x y }) = es := by
        apply Array.ext_getElem?
        intro i
        rw [Array.getElem?_modify]
        by_cases e : j = i
        · subst e
          rw [if_pos rfl, hj, ← h3]; rfl
        · rw [if_neg e]
      have e2 : ChangeMaps.setBlock W b (.map es1 clock1) = ChangeMaps.setBlock W b (.map es clock) := by
        have : (Instr.mapEntry 51 (.map (some b)) (pairV x y)).run Try.prog W = .ok (.tuple #[e0.val, goInt e0.born]) (ChangeMaps.setBlock W b (.map es clock)) := by
          simp [Instr.mapEntry, run_underlying Try.underlying51, MapKept.run_getObj_map hb, pairLaw.check W false hkey, h1, hj, h3, pairLaw.stays W hkey, hsame, MapKept.run_setObj_map _ hb, Result.andThen, ChangeMaps.setBlock]
        rw [this] at r1
        exact (ok_world r1).symm
      rw [e2]
      exact hmono.other (by rw [block_same hlt, hb])
  · have : (ChangeMaps.setBlock (ChangeMaps.setBlock W b (.map es1 clock1)) b (.map es' clock')).heap[b]? = W2.heap[b]? := by
      rw [hW2, block_same hlt, block_same (by simpa [ChangeMaps.setBlock] using hlt)]
    exact u2.other this
end
end Go.Proofs.Ytaonepbongbhoaa.Jd
