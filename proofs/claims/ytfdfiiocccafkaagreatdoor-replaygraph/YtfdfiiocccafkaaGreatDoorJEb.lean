/-
  Engines in memory: the engine's own blocks (its cells, its map of seats, its log) and what these lead to.
  The contracts of made, over and who.
  The contracts of Save, Write and Back.
  The contract of Write.
  The contracts of writer, behind.
  Regions that draw their order and end with one store, behind which nothing is held: all that only reads may be taken first, by what holds till then. One operation that is the same in every world may come at any time.
  Look-ups without 'is', and deletions, in a map of seats; the state that regions hold on to.
  The contract of entry.
  Engines in memory, on the way from one state to another: what gather has in hand.
-/
import Derived.Test.YtfdfiiocccafkaaGreatDoorJWalk
import Derived.Test.YtfdfiiocccafkaaGreatDoorJStore
import Derived.Test.YtfdfiiocccafkaaGreatDoorJTxn2
import Derived.Test.YtfdfiiocccafkaaGreatDoorJEm
import Derived.BigQuiet
import Derived.Deep.QuietTactic
import Derived.Deep.RegionWith
import Derived.Deep.RegionHeld3
import Derived.Deep.CutRange
import Derived.Deep.DeepCutAuto
import Derived.Deep.AppendLies
namespace Go.Proofs.YtfdfiiocccafkaaGreatDoor.En
open Go.RowKit
/-- but for the blocks F all is as it was. -/
structure Kp (F : Nat → Prop) (w w' : World) : Prop where
  os : w'.os = w.os
  tape : w'.tape = w.tape
  output : w'.output = w.output
  size : w.heap.size ≤ w'.heap.size
  block : ∀ k, k < w.heap.size → ¬ F k → w'.heap[k]? = w.heap[k]?
theorem Kp.refl (F : Nat → Prop) (w : World) : Kp F w w := ⟨rfl, rfl, rfl, Nat.le_refl _, fun _ _ _ => rfl⟩
theorem Kp.trans {F : Nat → Prop} {a b c : World} (h : Kp F a b) (k : Kp F b c) : Kp F a c :=
  ⟨k.os.trans h.os, k.tape.trans h.tape, k.output.trans h.output, Nat.le_trans h.size k.size, fun i hi hf => (k.block i (Nat.lt_of_lt_of_le hi h.size) hf).trans (h.block i hi hf)⟩
theorem Kp.of_below {F : Nat → Prop} {w w' : World} (h : Below w.heap.size w w') : Kp F w w' := ⟨h.os, h.tape, h.output, h.size, fun k hk _ => h.block k hk⟩
theorem Kp.below {F : Nat → Prop} {a w w' : World} (h : Kp F a w) (hb : Below w.heap.size w w') : Kp F a w' := h.trans (.of_below hb)
theorem Kp.alloc {F : Nat → Prop} {a w : World} (h : Kp F a w) (o : Obj) : Kp F a (w.alloc o) := h.below ((Below.refl _ _).alloc (Nat.le_refl _) _)
theorem Kp.setCell {F : Nat → Prop} {a w : World} (h : Kp F a w) {p : Addr} (hp : F p.block ∨ a.heap.size ≤ p.block) (u : Value) : Kp F a (w.setCell p u) :=
  ⟨h.os, h.tape, h.output, by simp [World.setCell]; exact h.size, fun k hk hf => by
    rw [Below.heap_setCell _ _ _ _ (fun e => by
      rcases hp with hp | hp
      · exact hf (e ▸ hp)
      · omega)]
    exact h.block k hk hf⟩
theorem Kp.setCells {F : Nat → Prop} {a : World} {b : Nat} (hp : F b ∨ a.heap.size ≤ b) : ∀ (vs : List Value) (o : Nat) (w : World), Kp F a w → Kp F a (w.setCells b o vs)
  | [], _, _, h => h
  | _ :: r, o, _, h => Kp.setCells hp r (o + 1) _ (h.setCell (p := ⟨b, o, none⟩) hp _)
theorem Kp.grown {F : Nat → Prop} {a w w' : World} {row : Option Nat} (h : Kp F a w) (hg : w.grownBy w' row) (hr : ∀ k, row = some k → F k ∨ a.heap.size ≤ k) : Kp F a w' :=
  ⟨hg.os.trans h.os, hg.tape.trans h.tape, hg.output.trans h.output, Nat.le_trans h.size hg.size, fun k hk hf => (hg.block k (Nat.lt_of_lt_of_le hk h.size) (fun e => by
    rcases hr k e.symm with h1 | h1
    · exact hf h1
    · omega)).trans (h.block k hk hf)⟩
theorem Kp.cell {F : Nat → Prop} {w w' : World} (h : Kp F w w') {p : Addr} {v : Value} (hc : w.cell? p = some v) (hf : ¬ F p.block) : w'.cell? p = some v :=
  (World.cell?_of_block (w := w) (h.block p.block (World.block_lt_of_cell? w p hc) hf)).trans hc
/-- a slice of steps that lies outside F. -/
structure SlF (F : Nat → Prop) (w : World) (A : Option Addr) (c : Nat) (L : List Tx.Sp) : Prop where
  sl : Tx.SlAt w A c L
  off : 0 < L.length → ∀ ad, A = some ad → ¬ F ad.block
theorem SlF.kp {F : Nat → Prop} {w w' : World} {A : Option Addr} {c : Nat} {L : List Tx.Sp} (h : SlF F w A c L) (hk : Kp F w w') : SlF F w' A c L :=
  ⟨⟨⟨fun hl => by
    obtain ⟨ad, e, hc⟩ := h.sl.at_.cell hl
    exact ⟨ad, e, fun j u hu => hk.cell (hc j u hu) (by rw [Tx.add_block]; exact h.off hl ad e)⟩, h.sl.at_.ok⟩, h.sl.le, h.sl.max⟩, h.off⟩
theorem SlF.foot {F F' : Nat → Prop} {w : World} {A : Option Addr} {c : Nat} {L : List Tx.Sp} (h : SlF F w A c L) (hf : ∀ k, k < w.heap.size → F' k → F k) : SlF F' w A c L :=
  ⟨h.sl, fun hl ad e hF => by
    obtain ⟨ad', e', hc⟩ := h.sl.at_.cell hl
    rw [e] at e'
    have e' := Option.some.inj e'
    subst e'
    have h0 := World.block_lt_of_cell? w _ (hc 0 _ (List.getElem?_eq_getElem (by rw [Tx.flat_len]; omega)))
    rw [Tx.add_block] at h0
    exact h.off hl ad e (hf _ h0 hF)⟩
theorem SlF.fresh {F : Nat → Prop} {w w' : World} {A : Option Addr} {c : Nat} {L : List Tx.Sp} (h : Tx.SlAt w' A c L) (hf : Tx.Fr w.heap.size A) (hF : ∀ k, F k → k < w.heap.size) : SlF F w' A c L :=
  ⟨h, fun _ ad e hx => by have := hf ad e; have := hF _ hx; omega⟩
theorem SlF.nil (F : Nat → Prop) (w : World) : SlF F w none 0 [] := ⟨⟨Tx.VarsAt.none_ _ _, Nat.le_refl _, Nat.zero_le _⟩, fun h => by simp at h⟩
/-- a slice of variables that lies outside F. -/
structure VrF (F : Nat → Prop) (w : World) (A : Option Addr) (L : List St.Vr) : Prop where
  at_ : Sx.VarsAt w A L
  off : 0 < L.length → ∀ ad, A = some ad → ¬ F ad.block
theorem VrF.kp {F : Nat → Prop} {w w' : World} {A : Option Addr} {L : List St.Vr} (h : VrF F w A L) (hk : Kp F w w') : VrF F w' A L :=
  ⟨⟨fun hl => by
    obtain ⟨ad, e, hc⟩ := h.at_.cell hl
    exact ⟨ad, e, fun j u hu => hk.cell (hc j u hu) (by rw [Tx.add_block]; exact h.off hl ad e)⟩, h.at_.ok⟩, h.off⟩
theorem VrF.foot {F F' : Nat → Prop} {w : World} {A : Option Addr} {L : List St.Vr} (h : VrF F w A L) (hf : ∀ k, k < w.heap.size → F' k → F k) : VrF F' w A L :=
  ⟨h.at_, fun hl ad e hF => by
    obtain ⟨ad', e', hc⟩ := h.at_.cell hl
    rw [e] at e'
    have e' := Option.some.inj e'
    subst e'
    have h0 := World.block_lt_of_cell? w _ (hc 0 _ (List.getElem?_eq_getElem (by rw [Sx.flat_len]; omega)))
    rw [Tx.add_block] at h0
    exact h.off hl ad e (hf _ h0 hF)⟩
theorem VrF.fresh {F : Nat → Prop} {w w' : World} {A : Option Addr} {L : List St.Vr} (h : Sx.VarsAt w' A L) (hf : Sx.Fr w.heap.size A) (hF : ∀ k, F k → k < w.heap.size) : VrF F w' A L :=
  ⟨h, fun _ ad e hx => by have := hf ad e; have := hF _ hx; omega⟩
/- the engine's cells -/
def engA (p : Pl) (S M L : Value) (n : Int) : Array Value := poolA p ++ #[S, M, L, .int .i64 n]
theorem engA_size (p : Pl) (S M L : Value) (n : Int) : (engA p S M L n).size = 104 := by simp [engA, poolA_size]
theorem engA_pool (p : Pl) (S M L : Value) (n : Int) (i : Nat) (h : i < 100) : (engA p S M L n)[i]? = some (cellOf p i) := by
  unfold engA
  rw [Array.getElem?_append_left (by rw [poolA_size]; exact h), poolA_get p i h]
theorem engA_rest (p : Pl) (S M L : Value) (n : Int) (i : Nat) : (engA p S M L n)[100 + i]? = (#[S, M, L, .int .i64 n] : Array Value)[i]? := by
  unfold engA
  rw [Array.getElem?_append_right (by rw [poolA_size]; omega), poolA_size, Nat.add_sub_cancel_left]
theorem engA_eq {p : Pl} {S M L : Value} {n : Int} {cs : Array Value} (hs : cs.size = 104) (h : ∀ i, i < 100 → cs[i]? = some (cellOf p i)) (h0 : cs[100]? = some S) (h1 : cs[101]? = some M) (h2 : cs[102]? = some L) (h3 : cs[103]? = some (.int .i64 n)) : cs = engA p S M L n := by
  apply Array.ext_getElem?
  intro i
  by_cases hi : i < 100
  · rw [engA_pool _ _ _ _ _ i hi, h i hi]
  · obtain ⟨j, rfl⟩ : ∃ j, i = 100 + j := ⟨i - 100, by omega⟩
    rw [engA_rest]
    match j with
    | 0 => exact h0
    | 1 => exact h1
    | 2 => exact h2
    | 3 => exact h3
    | j + 4 => rw [Array.getElem?_eq_none (by omega), Array.getElem?_eq_none (by simp)]
/-- the block b holds an engine's cells. -/
structure RawAt (w : World) (b : Nat) (p : Pl) (S M L : Value) (n : Int) : Prop where
  is : w.heap[b]? = some (.cells (engA p S M L n) 96 (0, 0))
section
variable {w : World} {b : Nat} {p : Pl} {S M L : Value} {n : Int}
theorem RawAt.lt (h : RawAt w b p S M L n) : b < w.heap.size := (Array.getElem?_eq_some_iff.1 h.is).1
theorem RawAt.below {w' : World} (h : RawAt w b p S M L n) (hb : Below w.heap.size w w') : RawAt w' b p S M L n := ⟨(hb.block b h.lt).trans h.is⟩
theorem RawAt.alloc (h : RawAt w b p S M L n) (o : Obj) : RawAt (w.alloc o) b p S M L n := ⟨(Below.heap_alloc w o b h.lt).trans h.is⟩
theorem RawAt.other {w' : World} (h : RawAt w b p S M L n) (e : w'.heap[b]? = w.heap[b]?) : RawAt w' b p S M L n := ⟨e.trans h.is⟩
theorem RawAt.cell (h : RawAt w b p S M L n) (i : Nat) (hi : i < 100) : w.cell? ⟨b, i, none⟩ = some (cellOf p i) := by
  rw [cell_of_row w b i _ _ _ h.is, engA_pool _ _ _ _ _ i hi]
theorem RawAt.cellR (h : RawAt w b p S M L n) (i : Nat) : w.cell? ⟨b, 100 + i, none⟩ = (#[S, M, L, .int .i64 n] : Array Value)[i]? := by
  rw [cell_of_row w b (100 + i) _ _ _ h.is, engA_rest]
theorem RawAt.size_ (h : RawAt w b p S M L n) : w.cell? ⟨b, 0, none⟩ = some (.int .i64 p.size) := h.cell 0 (by decide)
theorem RawAt.live_ (h : RawAt w b p S M L n) : w.cell? ⟨b, 65, none⟩ = some (.int .u64 (p.live : Nat)) := h.cell 65 (by decide)
theorem RawAt.done_ (h : RawAt w b p S M L n) : w.cell? ⟨b, 66, none⟩ = some (.int .u64 (p.done : Nat)) := h.cell 66 (by decide)
theorem RawAt.count_ (h : RawAt w b p S M L n) : w.cell? ⟨b, 99, none⟩ = some (.int .i64 p.count) := h.cell 99 (by decide)
theorem RawAt.id_ (h : RawAt w b p S M L n) (k : Nat) (hk : k < 32) : w.cell? ⟨b, 67 + k, none⟩ = some (.int .i64 (p.ids k)) := by rw [h.cell (67 + k) (by omega), cell_ids p k hk]
theorem RawAt.o_ (h : RawAt w b p S M L n) (k : Nat) (hk : k < 32) : w.cell? ⟨b, 33 + k, none⟩ = some (.int .i64 (p.o k)) := by rw [h.cell (33 + k) (by omega), cell_o p k hk]
theorem RawAt.store_ (h : RawAt w b p S M L n) : w.cell? ⟨b, 100, none⟩ = some S := h.cellR 0
theorem RawAt.map_ (h : RawAt w b p S M L n) : w.cell? ⟨b, 101, none⟩ = some M := h.cellR 1
theorem RawAt.log_ (h : RawAt w b p S M L n) : w.cell? ⟨b, 102, none⟩ = some L := h.cellR 2
theorem RawAt.num_ (h : RawAt w b p S M L n) : w.cell? ⟨b, 103, none⟩ = some (.int .i64 n) := h.cellR 3
theorem RawAt.free (h : RawAt w b p S M L n) (i : Nat) : w.frozen? ⟨b, i, none⟩ = false := frozen_of_row h.is
theorem RawAt.range (h : RawAt w b p S M L n) : w.rangeAt b 0 (poolA p).toList := fun j v hv => by
  rw [Array.getElem?_toList] at hv
  have hj : j < 100 := by rw [← poolA_size p]; exact (Array.getElem?_eq_some_iff.1 hv).1
  rw [poolA_get _ j hj] at hv
  rw [Nat.zero_add, h.cell j hj, hv]
theorem RawAt.there (h : RawAt w b p S M L n) : w.there b 0 100 := fun j hj => ⟨by rw [Nat.zero_add, h.cell j hj]; rfl, h.free _⟩
theorem RawAt.put (h : RawAt w b p S M L n) (q : Pl) : RawAt (w.setCells b 0 (poolA q).toList) b q S M L n := by
  obtain ⟨ds, h1, h2, h3⟩ := heap_setCells b (poolA q).toList 0 w _ _ _ h.is
  constructor
  have e : ds = engA q S M L n := by
    refine engA_eq (by rw [h2, engA_size]) (fun i hi => ?_) ?_ ?_ ?_ ?_
    · rw [h3 i, if_pos (by rw [Array.length_toList, poolA_size, engA_size]; omega), Nat.sub_zero, Array.getElem?_toList, poolA_get q i hi]
    all_goals rw [h3, if_neg (by rw [Array.length_toList, poolA_size]; omega)]
    · exact engA_rest _ _ _ _ _ 0
    · exact engA_rest _ _ _ _ _ 1
    · exact engA_rest _ _ _ _ _ 2
    · exact engA_rest _ _ _ _ _ 3
  rw [h1, e]
theorem RawAt.set1 {i : Nat} {v S' M' L' : Value} {n' : Int} (h : RawAt w b p S M L n) (hi : i < 4) (hs : (#[S, M, L, .int .i64 n] : Array Value).setIfInBounds i v = #[S', M', L', .int .i64 n']) : RawAt (w.setCell ⟨b, 100 + i, none⟩ v) b p S' M' L' n' := by
  constructor
  rw [heap_set h.is]
  have e : (engA p S M L n).setIfInBounds (100 + i) v = engA p S' M' L' n' := by
    have hj : ∀ j, j < 4 → ((engA p S M L n).setIfInBounds (100 + i) v)[100 + j]? = (#[S', M', L', .int .i64 n'] : Array Value)[j]? := fun j hj => by
      rw [← hs, Array.getElem?_setIfInBounds, Array.getElem?_setIfInBounds, engA_size, engA_rest]
      by_cases e : i = j
      · subst e; rw [if_pos rfl, if_pos rfl, if_pos (by omega), if_pos (by simpa using hi)]
      · rw [if_neg (by omega), if_neg e]
    refine engA_eq (by rw [Array.size_setIfInBounds, engA_size]) (fun j hj' => ?_) (hj 0 (by omega)) (hj 1 (by omega)) (hj 2 (by omega)) (hj 3 (by omega))
    rw [Array.getElem?_setIfInBounds, if_neg (by omega), engA_pool _ _ _ _ _ j hj']
  rw [e]
theorem RawAt.set_store (h : RawAt w b p S M L n) (v : Value) : RawAt (w.setCell ⟨b, 100, none⟩ v) b p v M L n := h.set1 (i := 0) (by omega) rfl
theorem RawAt.set_log (h : RawAt w b p S M L n) (v : Value) : RawAt (w.setCell ⟨b, 102, none⟩ v) b p S M v n := h.set1 (i := 2) (by omega) rfl
theorem RawAt.set_num (h : RawAt w b p S M L n) (k : Int) : RawAt (w.setCell ⟨b, 103, none⟩ (.int .i64 k)) b p S M L k := h.set1 (i := 3) (by omega) rfl
end
/- entries in memory -/
abbrev Xe := Ent × Value × Value
def entC (x : Xe) : List Value := [.int .i64 x.1.id, .bool x.1.com, .bool x.1.ovr, x.2.1, x.2.2]
def flatE (X : List Xe) : List Value := X.flatMap entC
theorem flatE_len (X : List Xe) : (flatE X).length = X.length * 5 := by
  induction X with
  | nil => rfl
  | cons v L ih => simp only [flatE, List.flatMap_cons, List.length_append] at ih ⊢; rw [ih]; simp [entC]; omega
theorem flatE_append (X Y : List Xe) : flatE (X ++ Y) = flatE X ++ flatE Y := by simp [flatE]
theorem flatE_at {X : List Xe} {j : Nat} {x : Xe} (h : X[j]? = some x) (i : Nat) (hi : i < 5) : (flatE X)[j * 5 + i]? = (entC x)[i]? := by
  obtain ⟨hl, rfl⟩ := List.getElem?_eq_some_iff.1 h
  have e : X = X.take j ++ (X[j] :: X.drop (j + 1)) := by simp
  have e2 : flatE X = flatE (X.take j) ++ (entC X[j] ++ flatE (X.drop (j + 1))) := by
    conv => lhs; rw [e]
    rw [flatE_append]; rfl
  rw [e2, List.getElem?_append_right (by rw [flatE_len]; simp; omega), flatE_len]
  have : j * 5 + i - (List.take j X).length * 5 = i := by simp; omega
  rw [this, List.getElem?_append_left (by simp [entC]; omega)]
/-- an entry's slices. -/
structure EntAt (F : Nat → Prop) (w : World) (x : Xe) : Prop where
  rd : ∃ A c, x.2.1 = .slice A x.1.rd.length c ∧ SlF F w A c x.1.rd
  wr : ∃ A c, x.2.2 = .slice A x.1.wr.length c ∧ SlF F w A c x.1.wr
theorem EntAt.kp {F : Nat → Prop} {w w' : World} {x : Xe} (h : EntAt F w x) (hk : Kp F w w') : EntAt F w' x := by
  obtain ⟨⟨A, c, e, h1⟩, ⟨B, d, e', h2⟩⟩ := h
  exact ⟨⟨A, c, e, h1.kp hk⟩, ⟨B, d, e', h2.kp hk⟩⟩
theorem EntAt.foot {F F' : Nat → Prop} {w : World} {x : Xe} (h : EntAt F w x) (hf : ∀ k, k < w.heap.size → F' k → F k) : EntAt F' w x := by
  obtain ⟨⟨A, c, e, h1⟩, ⟨B, d, e', h2⟩⟩ := h
  exact ⟨⟨A, c, e, h1.foot hf⟩, ⟨B, d, e', h2.foot hf⟩⟩
theorem flatE_one {F : Nat → Prop} {w : World} {X : List Xe} (h : ∀ x ∈ X, EntAt F w x) : ∀ u ∈ flatE X, u.oneCell' = true := by
  intro u hu
  obtain ⟨x, hx, hv⟩ := List.mem_flatMap.1 hu
  obtain ⟨⟨A, c, e, _⟩, ⟨B, d, e', _⟩⟩ := h x hx
  simp [entC] at hv
  rcases hv with rfl | rfl | rfl | rfl | rfl
  · rfl
  · rfl
  · rfl
  · rw [e]; rfl
  · rw [e']; rfl
/- seats -/
def slotAt (g : Eng) (id : Int) : Option Nat := (List.range 32).find? fun i => (tkB g).testBit i && decide (g.p.ids i = id)
theorem slotAt_some {g : Eng} {id : Int} {i : Nat} (h : slotAt g id = some i) : i < 32 ∧ Po.tk g.p i ∧ g.p.ids i = id := by
  unfold slotAt at h
  rw [List.find?_range_eq_some] at h
  have h1 := h.1
  rw [Bool.and_eq_true, decide_eq_true_eq] at h1
  exact ⟨by simpa using h.2.1, (tkB_test g i).1 h1.1, h1.2⟩
theorem slotAt_of {g : Eng} (hs : Po.Sound g.p) {i : Nat} (h : Po.tk g.p i) : slotAt g (g.p.ids i) = some i := by
  have hi := hs.tk32 h
  cases e : slotAt g (g.p.ids i) with
  | none =>
    unfold slotAt at e
    rw [List.find?_eq_none] at e
    have := e i (by simpa using hi)
    simp [(tkB_test g i).2 h] at this
  | some j =>
    have hj := slotAt_some e
    rw [hs.uniq j i hj.2.1 h hj.2.2]
theorem slotAt_none {g : Eng} {id : Int} (h : slotAt g id = none) {i : Nat} (hi : i < 32) (ht : Po.tk g.p i) : g.p.ids i ≠ id := by
  unfold slotAt at h
  rw [List.find?_eq_none] at h
  have := h i (by simpa using hi)
  simp [(tkB_test g i).2 ht] at this
  exact this
def seatV (T : Nat → Value) (g : Eng) (i : Nat) : Value := .agg #[T i, .int .i64 (i : Nat), .bool (g.c i)]
def seatF (T : Nat → Value) (g : Eng) (id : Int) : Option Value := (slotAt g id).map (seatV T g)
def zeroSeat : Value := .agg #[.slice none 0 0, .int .i64 0, .bool false]
theorem seat_info : (Tryz.prog.info? 115).map (fun i => (i.zero, i.size)) = some (some zeroSeat, 3) := by kernel_rfl
theorem zero_seat (w : World) : (zeroValue 115).run Tryz.prog w = .ok zeroSeat w := (zero_of_info seat_info).1 w
def TAt (F : Nat → Prop) (w : World) (g : Eng) (T : Nat → Value) : Prop := ∀ i, Po.tk g.p i → ∃ A c, T i = .slice A (g.t i).length c ∧ SlF F w A c (g.t i)
/-- the engine's own blocks. -/
def Foot (b mb : Nat) (lv : Value) (k : Nat) : Prop := k = b ∨ k = mb ∨ lv.ownBlock = some k
/-- the engine at b is g, with so much room taken of its map; F are its own blocks. -/
structure EngIs (F : Nat → Prop) (w : World) (b N : Nat) (g : Eng) (sA : Option Addr) (sc mb : Nat) (lv : Value) (T : Nat → Value) (X : List Xe) : Prop where
  raw : RawAt w b g.p (.slice sA g.s.length sc) (.map (some mb)) lv g.n
  st : VrF F w sA g.s
  mp : ∃ sz, Tx.MapV w mb N sz zeroSeat (seatF T g)
  ts : TAt F w g T
  lg : w.ownsRow 0 79 5 lv X.length (flatE X)
  xs : X.map (·.1) = g.log
  xe : ∀ x ∈ X, EntAt F w x
  foot : ∀ k, F k ↔ Foot b mb lv k
def EngAt (F : Nat → Prop) (w : World) (b N : Nat) (g : Eng) : Prop := ∃ sA sc mb lv T X, EngIs F w b N g sA sc mb lv T X
theorem MapV.obj {W : World} {b n sz : Nat} {z : Value} {f : Int → Option Value} (h : Tx.MapV W b n sz z f) : ∃ es clock, W.heap[b]? = some (.map es clock) := by
  obtain ⟨D, ⟨es, clock, h, _⟩, _⟩ := h
  exact ⟨es, clock, h⟩
section
variable {F : Nat → Prop} {w : World} {b N : Nat} {g : Eng} {sA : Option Addr} {sc mb : Nat} {lv : Value} {T : Nat → Value} {X : List Xe}
theorem EngIs.Fb (h : EngIs F w b N g sA sc mb lv T X) : F b := (h.foot b).2 (.inl rfl)
theorem EngIs.Fm (h : EngIs F w b N g sA sc mb lv T X) : F mb := (h.foot mb).2 (.inr (.inl rfl))
theorem EngIs.lt (h : EngIs F w b N g sA sc mb lv T X) (k : Nat) (hk : F k) : k < w.heap.size := by
  rcases (h.foot k).1 hk with rfl | rfl | e
  · exact h.raw.lt
  · obtain ⟨_, hm⟩ := h.mp; exact hm.lt
  · exact (h.lg.lt k e).2
theorem EngIs.bm (h : EngIs F w b N g sA sc mb lv T X) : b ≠ mb := fun e => by
  obtain ⟨_, hm⟩ := h.mp
  obtain ⟨es, c, hm⟩ := MapV.obj hm
  have := h.raw.is
  rw [e, hm] at this
  cases this
theorem EngIs.row (h : EngIs F w b N g sA sc mb lv T X) {k : Nat} (e : lv.ownBlock = some k) : ∃ cs, w.heap[k]? = some (.cells cs 79 (0, 0)) := by
  rcases h.lg.2 with ⟨e2, _⟩ | ⟨q, cap, cur, e2, _, hg, _⟩
  · rw [e2] at e; cases e
  · rw [e2] at e
    have : q = k := by simpa [Value.ownBlock] using e
    rw [← this]; exact ⟨cur, hg⟩
theorem EngIs.bl (h : EngIs F w b N g sA sc mb lv T X) : lv.ownBlock ≠ some b := fun e => by
  obtain ⟨cs, hc⟩ := h.row e
  have := h.raw.is
  rw [hc] at this
  have := Option.some.inj this
  injection this with _ h2
  revert h2; decide
theorem EngIs.ml (h : EngIs F w b N g sA sc mb lv T X) : lv.ownBlock ≠ some mb := fun e => by
  obtain ⟨cs, hc⟩ := h.row e
  obtain ⟨_, hm⟩ := h.mp
  obtain ⟨es, c, hm⟩ := MapV.obj hm
  rw [hm] at hc
  cases hc
theorem TAt.kp {w' : World} (h : TAt F w g T) (hk : Kp F w w') : TAt F w' g T := fun i hi => by
  obtain ⟨A, c, e, h1⟩ := h i hi
  exact ⟨A, c, e, h1.kp hk⟩
/-- what does not write to the engine's own blocks keeps it. -/
theorem EngIs.below {w' : World} (h : EngIs F w b N g sA sc mb lv T X) (hb : Below w.heap.size w w') : EngIs F w' b N g sA sc mb lv T X := by
  have hk : Kp F w w' := .of_below hb
  obtain ⟨sz, hm⟩ := h.mp
  refine ⟨h.raw.below hb, h.st.kp hk, ⟨sz, hm.keep hb hm.lt⟩, h.ts.kp hk, ?_, h.xs, fun x hx => (h.xe x hx).kp hk, h.foot⟩
  exact h.lg.kept (row := none) ⟨hb.os, hb.tape, hb.output, hb.size, fun k hk _ => hb.block k hk⟩ (by cases hv : lv.ownBlock <;> simp)
theorem EngIs.mono {M : Nat} (h : EngIs F w b N g sA sc mb lv T X) (hM : N ≤ M) : EngIs F w b M g sA sc mb lv T X := by
  obtain ⟨sz, D, ho, hr⟩ := h.mp
  exact ⟨h.raw, h.st, ⟨sz, D, ho.mono hM, hr⟩, h.ts, h.lg, h.xs, h.xe, h.foot⟩
theorem EngAt.below {w' : World} (h : EngAt F w b N g) (hb : Below w.heap.size w w') : EngAt F w' b N g := by
  obtain ⟨sA, sc, mb, lv, T, X, h⟩ := h
  exact ⟨sA, sc, mb, lv, T, X, h.below hb⟩
end
/-- what a call on an engine leaves: the engine is as told, all else as it was. -/
def EngTo (F : Nat → Prop) (w : World) (b N : Nat) (g : Eng) (w' : World) : Prop := ∃ F', EngAt F' w' b N g ∧ Kp F w w' ∧ ∀ k, k < w.heap.size → F' k → F k
theorem EngTo.keep {F : Nat → Prop} {w w' : World} {b N : Nat} {g : Eng} (h : EngAt F w b N g) (hb : Below w.heap.size w w') : EngTo F w b N g w' := ⟨F, h.below hb, .of_below hb, fun _ _ h => h⟩
theorem EngTo.below {F : Nat → Prop} {w w' w'' : World} {b N : Nat} {g : Eng} (h : EngTo F w b N g w') (hb : Below w'.heap.size w' w'') : EngTo F w b N g w'' := by
  obtain ⟨F', h1, h2, h3⟩ := h
  exact ⟨F', h1.below hb, h2.below hb, h3⟩
theorem EngTo.trans {F : Nat → Prop} {a b' c : World} {b N M : Nat} {g k : Eng} (h : EngTo F a b N g b') (hn : ∀ F', EngAt F' b' b N g → EngTo F' b' b M k c) : EngTo F a b M k c := by
  obtain ⟨F', h1, h2, h3⟩ := h
  obtain ⟨F'', k1, k2, k3⟩ := hn F' h1
  refine ⟨F'', k1, ⟨k2.os.trans h2.os, k2.tape.trans h2.tape, k2.output.trans h2.output, Nat.le_trans h2.size k2.size, fun i hi hf => (k2.block i (Nat.lt_of_lt_of_le hi h2.size) (fun x => hf (h3 i hi x))).trans (h2.block i hi hf)⟩, fun i hi x => h3 i hi (k3 i (Nat.lt_of_lt_of_le hi h2.size) x)⟩
theorem EngTo.pre {F : Nat → Prop} {w w' w'' : World} {b N : Nat} {g : Eng} (hb : Below w.heap.size w w') (h : EngTo F w' b N g w'') : EngTo F w b N g w'' := by
  obtain ⟨F', h1, h2, h3⟩ := h
  exact ⟨F', h1, (Kp.of_below hb).trans h2, fun i hi => h3 i (Nat.lt_of_lt_of_le hi hb.size)⟩
end Go.Proofs.YtfdfiiocccafkaaGreatDoor.En
namespace Go.Proofs.YtfdfiiocccafkaaGreatDoor.En
open Go.RowKit
theorem quiet_eq {P : Program} {f : FuncId} {args : Array Value} {w : World} {n : Nat} {v : Value} (h : Calls P f args (w.drewN n) fun e w' => e = .returned v ∧ w.drewN n = w') :
    Calls P f args (w.drewN n) fun e w'' => e = .returned v ∧ ∃ m, w'' = w.drewN m := h.mono fun _ _ hh => ⟨hh.1, n, hh.2.symm⟩
set_option maxHeartbeats 1000000 in
theorem made_any (b : Nat) (n : Int) (w : World) (h : w.cell? ⟨b, 0, none⟩ = some (.int .i64 n)) :
    Calls Tryz.prog 36 #[.pointer (some ⟨b, 0, none⟩)] w fun e w' => e = .returned (.bool (decide (0 < n))) ∧ w = w' := by
  go_enter Tryz.func36, Tryz.ntmps36
  go_wp2
  go_ret
  exact ⟨rfl, rfl⟩
set_option maxHeartbeats 1000000 in
theorem made_nil (w : World) : Calls Tryz.prog 36 #[.pointer none] w fun e w' => e = .returned (.bool false) ∧ w = w' := by
  go_enter Tryz.func36, Tryz.ntmps36
  go_wp2
  go_ret
  exact ⟨rfl, rfl⟩
theorem made_yes (b : Nat) (n : Int) (w : World) (h : w.cell? ⟨b, 0, none⟩ = some (.int .i64 n)) (hn : 1 ≤ n) :
    Calls Tryz.prog 36 #[.pointer (some ⟨b, 0, none⟩)] w fun e w' => e = .returned (.bool true) ∧ w = w' := by
  have := made_any b n w h
  rwa [decide_eq_true (show (0 : Int) < n by omega)] at this
set_option maxHeartbeats 1000000 in
theorem over_any (b i x : Nat) (tv : Value) (c : Bool) (w : World) (h : w.cell? ⟨b, 65, none⟩ = some (.int .u64 (x : Nat))) (hb : b < w.heap.size) (hx : x < 18446744073709551616) (hi : i < 64) :
    Calls Tryz.prog 85 #[.pointer (some ⟨b, 0, none⟩), .agg #[tv, .int .i64 (i : Nat), .bool c]] w fun e w' => e = .returned (.bool (!x.testBit i)) ∧ Below w.heap.size w w' := by
  have HB := Lib.hid (Tx.below_new w (.cells #[tv, .int .i64 (i : Nat), .bool c] 115))
  have c0 := (HB.out.cell (p := ⟨b, 65, none⟩) hb).trans h
  have HX := Lib.hid (Tx.Blk.new w #[tv, .int .i64 (i : Nat), .bool c] 115)
  have c1 := HX.out.cell 1
  clear h
  simp only [List.getElem?_toArray, List.getElem?_cons_zero, List.getElem?_cons_succ] at c1
  go_enter Tryz.func85, Tryz.ntmps85
  go_wp2
  generalize w.alloc (.cells #[tv, .int .i64 (i : Nat), .bool c] 115) = W at *
  go_quiet (first | (go_at_call 133; exact quiet_eq (has_nat_val _ _ _ _ hx (by omega) rfl)))
  go_wp2
  go_ret
  exact ⟨rfl, below_drewN HB.out _⟩
/- who -/
theorem results_seat {fn : Func} {p u : Tmp} {ty : TypeId} (h : fn.results = #[.cell p ty, .tmp u]) (tmps : Array Value) (w : World) (b : Nat) (t : TypeId) (cs : Array Value) (fs : _) (x : Value) (hp : tmps.getD p undef = .pointer (some ⟨b, 0, none⟩)) (hx : tmps.getD u undef = x) (hv : Tx.Blk w b cs t)
    (hu : Tryz.prog.underlying ty = some (.struct fs)) (hi : (Tryz.prog.info? ty).map (·.size) = some cs.size) : (results fn tmps).run Tryz.prog w = .ok (.tuple #[.agg cs, x]) w := by
  rw [results_cell_tmp h, hp, hx]
  simp [asAddr, Result.andThen, run_loadVar_row w b t ty _ (0, 0) _ hv hu rfl hi]
theorem seat_size : (Tryz.prog.info? 115).map (·.size) = some 3 := by kernel_rfl
def zeroS3 : Array Value := #[.slice none 0 0, .int .i64 0, .bool false]
/-- three cells stored one by one. -/
def put3 (w : World) (b : Nat) (u v x : Value) : World := ((w.setCell ⟨b, 0, none⟩ u).setCell ⟨b, 1, none⟩ v).setCell ⟨b, 2, none⟩ x
theorem blk_put3 {w : World} {b : Nat} {cs : Array Value} {t : TypeId} (h : Tx.Blk w b cs t) (hs : cs.size = 3) (u v x : Value) : Tx.Blk (put3 w b u v x) b #[u, v, x] t := by
  have h3 := ((h.set 0 u).set 1 v).set 2 x
  have e : ((cs.setIfInBounds 0 u).setIfInBounds 1 v).setIfInBounds 2 x = #[u, v, x] := by
    apply Array.ext
    · simp [hs]
    · intro i h1 h2
      have : i < 3 := by simpa using h2
      match i with
      | 0 => simp [hs]
      | 1 => simp [hs]
      | 2 => simp
  rw [e] at h3
  exact h3
theorem below_put3 {a w : World} {B b : Nat} (h : Below B a w) (hb : B ≤ b) (u v x : Value) : Below B a (put3 w b u v x) := ((h.setCell (p := ⟨b, 0, none⟩) hb _).setCell (p := ⟨b, 1, none⟩) hb _).setCell (p := ⟨b, 2, none⟩) hb _
def whoR (e : Int) : Value := .tuple #[zeroSeat, .int .i64 e]
set_option maxHeartbeats 2000000 in
theorem who_nil (id : Int) (w : World) : Calls Tryz.prog 45 #[.pointer none, .int .i64 id] w fun e w' => e = .returned (whoR 1) ∧ Below w.heap.size w w' := by
  have HX := Lib.hid (Tx.Blk.new w zeroS3 115)
  have HB := Lib.hid (Tx.below_new w (.cells zeroS3 115))
  unfold zeroS3 at *
  go_enter Tryz.func45, Tryz.ntmps45
  go_wp2_with (go_at_call 36; refine (made_nil _).mono ?_; rintro e w' ⟨rfl, rfl⟩)
  exact bodyPost_ret (results_seat rfl _ _ w.heap.size 115 _ _ _ rfl rfl HX.out Tryz.underlying115 seat_size) rfl ⟨rfl, HB.out⟩
set_option maxHeartbeats 2000000 in
theorem who_zero (b : Nat) (id : Int) (w : World) (h : w.cell? ⟨b, 0, none⟩ = some (.int .i64 0)) : Calls Tryz.prog 45 #[.pointer (some ⟨b, 0, none⟩), .int .i64 id] w fun e w' => e = .returned (whoR 1) ∧ Below w.heap.size w w' := by
  have HX := Lib.hid (Tx.Blk.new w zeroS3 115)
  have HB := Lib.hid (Tx.below_new w (.cells zeroS3 115))
  have HC := Lib.hid ((HB.out.cell (Tx.cell_lt h)).trans h)
  clear h
  unfold zeroS3 at *
  go_enter Tryz.func45, Tryz.ntmps45
  go_wp2_with (go_at_call 36; refine (made_any _ 0 _ HC.out).mono ?_; rintro e w' ⟨rfl, rfl⟩)
  exact bodyPost_ret (results_seat rfl _ _ w.heap.size 115 _ _ _ rfl rfl HX.out Tryz.underlying115 seat_size) rfl ⟨rfl, HB.out⟩
/-- what is wanted of an engine's blocks to ask who is there. -/
structure WhoAt (w : World) (b mb N : Nat) (p : Pl) (f : Int → Option Value) : Prop where
  size : w.cell? ⟨b, 0, none⟩ = some (.int .i64 p.size)
  count : w.cell? ⟨b, 99, none⟩ = some (.int .i64 p.count)
  live : w.cell? ⟨b, 65, none⟩ = some (.int .u64 (p.live : Nat))
  map : w.cell? ⟨b, 101, none⟩ = some (.map (some mb))
  mp : ∃ sz, Tx.MapV w mb N sz zeroSeat f
theorem WhoAt.below {w w' : World} {b mb N : Nat} {p : Pl} {f : Int → Option Value} (h : WhoAt w b mb N p f) (hb : Below w.heap.size w w') : WhoAt w' b mb N p f := by
  obtain ⟨sz, hm⟩ := h.mp
  exact ⟨(hb.cell (Tx.cell_lt h.size)).trans h.size, (hb.cell (Tx.cell_lt h.count)).trans h.count, (hb.cell (Tx.cell_lt h.live)).trans h.live, (hb.cell (Tx.cell_lt h.map)).trans h.map, sz, hm.keep hb hm.lt⟩
theorem EngIs.who {F : Nat → Prop} {w : World} {b N : Nat} {g : Eng} {sA : Option Addr} {sc mb : Nat} {lv : Value} {T : Nat → Value} {X : List Xe} (h : EngIs F w b N g sA sc mb lv T X) : WhoAt w b mb N g.p (seatF T g) :=
  ⟨h.raw.size_, h.raw.count_, h.raw.live_, h.raw.map_, h.mp⟩
theorem look_seat {w : World} {mb N : Nat} {f : Int → Option Value} {id : Int} (hid : St.i64p id) (h : ∃ sz, Tx.MapV w mb N sz zeroSeat f) :
    (Instr.lookup 94 (.map (some mb)) (.int .i64 id) true).run Tryz.prog w = .ok (.tuple #[(f id).getD zeroSeat, .bool (f id).isSome]) w := by
  obtain ⟨sz, h⟩ := h
  exact h.look Tryz.underlying94 (zero_seat w) hid
set_option maxHeartbeats 2000000 in
theorem who_none (b mb N : Nat) (p : Pl) (f : Int → Option Value) (id : Int) (w : World) (h : WhoAt w b mb N p f) (hs : 1 ≤ p.size) (hc : id < 1 ∨ p.count < id) :
    Calls Tryz.prog 45 #[.pointer (some ⟨b, 0, none⟩), .int .i64 id] w fun e w' => e = .returned (whoR 3) ∧ Below w.heap.size w w' := by
  have HX := Lib.hid (Tx.Blk.new w zeroS3 115)
  have HB := Lib.hid (Tx.below_new w (.cells zeroS3 115))
  have H := Lib.hid (h.below HB.out)
  have c99 := H.out.count
  clear h
  unfold zeroS3 at *
  by_cases h0 : id < 1
  · go_enter Tryz.func45, Tryz.ntmps45
    go_wp2_with (go_at_call 36; refine (made_yes _ _ _ H.out.size hs).mono ?_; rintro e w' ⟨rfl, rfl⟩)
    exact bodyPost_ret (results_seat rfl _ _ w.heap.size 115 _ _ _ rfl rfl HX.out Tryz.underlying115 seat_size) rfl ⟨rfl, HB.out⟩
  · have h1 : p.count < id := by omega
    go_enter Tryz.func45, Tryz.ntmps45
    go_wp2_with (go_at_call 36; refine (made_yes _ _ _ H.out.size hs).mono ?_; rintro e w' ⟨rfl, rfl⟩)
    exact bodyPost_ret (results_seat rfl _ _ w.heap.size 115 _ _ _ rfl rfl HX.out Tryz.underlying115 seat_size) rfl ⟨rfl, HB.out⟩
set_option maxHeartbeats 2000000 in
set_option maxRecDepth 100000 in
theorem who_gone (b mb N : Nat) (p : Pl) (f : Int → Option Value) (id : Int) (w : World) (h : WhoAt w b mb N p f) (hs : 1 ≤ p.size) (hid : St.i64p id) (hc : 1 ≤ id ∧ id ≤ p.count) (hf : f id = none) :
    Calls Tryz.prog 45 #[.pointer (some ⟨b, 0, none⟩), .int .i64 id] w fun e w' => e = .returned (whoR 6) ∧ Below w.heap.size w w' := by
  have HX := Lib.hid (Tx.Blk.new w zeroS3 115)
  have HB := Lib.hid (Tx.below_new w (.cells zeroS3 115))
  have H := Lib.hid (h.below HB.out)
  have c99 := H.out.count
  have c101 := H.out.map
  have hl := look_seat hid H.out.mp
  rw [hf] at hl
  have HX2 := Lib.hid (HX.out.alloc (.cells zeroS3 115))
  have HB2 := Lib.hid (HB.out.alloc HB.out.size (.cells zeroS3 115))
  have hlx : (Option.getD (none : Option Value) zeroSeat) = .agg #[.slice none 0 0, .int .i64 0, .bool false] := rfl
  rw [hlx] at hl
  clear h hf hlx
  unfold zeroS3 at *
  have h0 : ¬ id < 1 := by omega
  have h1 : ¬ p.count < id := by omega
  go_enter Tryz.func45, Tryz.ntmps45
  go_wp2_with (go_at_call 36; refine (made_yes _ _ _ H.out.size hs).mono ?_; rintro e w' ⟨rfl, rfl⟩)
  exact bodyPost_ret (results_seat rfl _ _ w.heap.size 115 _ _ _ rfl rfl HX2.out Tryz.underlying115 seat_size) rfl ⟨rfl, HB2.out⟩
set_option maxHeartbeats 4000000 in
set_option maxRecDepth 100000 in
theorem who_over (b mb N i n cc : Nat) (A : Option Addr) (c : Bool) (p : Pl) (f : Int → Option Value) (id : Int) (w : World) (h : WhoAt w b mb N p f) (hs : 1 ≤ p.size) (hid : St.i64p id) (hc : 1 ≤ id ∧ id ≤ p.count) (hf : f id = some (.agg #[.slice A n cc, .int .i64 (i : Nat), .bool c])) (hp : p.live < 18446744073709551616) (hi : i < 64) (hv : p.live.testBit i = false) :
    Calls Tryz.prog 45 #[.pointer (some ⟨b, 0, none⟩), .int .i64 id] w fun e w' => e = .returned (whoR 6) ∧ Below w.heap.size w w' := by
  have HX := Lib.hid (Tx.Blk.new w zeroS3 115)
  have HB := Lib.hid (Tx.below_new w (.cells zeroS3 115))
  have H := Lib.hid (h.below HB.out)
  have c99 := H.out.count
  have c101 := H.out.map
  have hl := look_seat hid H.out.mp
  rw [hf] at hl
  have HX2 := Lib.hid (HX.out.alloc (.cells #[.slice A n cc, .int .i64 (i : Nat), .bool c] 115))
  have HY2 := Lib.hid (Tx.Blk.new (w.alloc (.cells zeroS3 115)) #[.slice A n cc, .int .i64 (i : Nat), .bool c] 115)
  have HB2 := Lib.hid (HB.out.alloc HB.out.size (.cells #[.slice A n cc, .int .i64 (i : Nat), .bool c] 115))
  have H2 := Lib.hid (H.out.below (Tx.below_new _ (.cells #[.slice A n cc, .int .i64 (i : Nat), .bool c] 115)))
  have hlx : (Option.getD (some (Value.agg #[.slice A n cc, .int .i64 (i : Nat), .bool c])) zeroSeat) = .agg #[.slice A n cc, .int .i64 (i : Nat), .bool c] := rfl
  rw [hlx] at hl
  have HV := Lib.hid hv
  clear h hf hlx hv
  unfold zeroS3 at *
  have h0 : ¬ id < 1 := by omega
  have h1 : ¬ p.count < id := by omega
  go_enter Tryz.func45, Tryz.ntmps45
  go_wp2_with (go_at_call 36; refine (made_yes _ _ _ H.out.size hs).mono ?_; rintro e w' ⟨rfl, rfl⟩)
  refine (over_any _ _ _ _ _ _ H2.out.live (Tx.cell_lt H2.out.live) hp hi).mono ?_
  rintro e w1 ⟨rfl, hb1⟩
  rw [HV.out]
  have HB3 := Lib.hid (HB2.out.trans (hb1.mono HB2.out.size))
  have HX3 := Lib.hid (show Tx.Blk w1 w.heap.size _ _ from (hb1.block _ HX2.out.lt).trans HX2.out)
  have HY3 := Lib.hid (show Tx.Blk w1 (w.alloc (.cells #[.slice none 0 0, .int .i64 0, .bool false] 115)).heap.size _ _ from (hb1.block _ HY2.out.lt).trans HY2.out)
  rw [Tx.size_new] at HY3
  clear hb1
  have x0 := HX3.out.cell 0
  have x1 := HX3.out.cell 1
  have x2 := HX3.out.cell 2
  have xf := HX3.out.free
  have HP := Lib.hid (blk_put3 HX3.out rfl (.slice none 0 0) (.int .i64 0) (.bool false))
  have HPB := Lib.hid (below_put3 HB3.out (Nat.le_refl w.heap.size) (.slice none 0 0) (.int .i64 0) (.bool false))
  unfold put3 at HP HPB
  go_wp2
  exact bodyPost_ret (results_seat rfl _ _ w.heap.size 115 _ _ _ rfl rfl HP.out Tryz.underlying115 seat_size) rfl ⟨rfl, HPB.out⟩
set_option maxHeartbeats 4000000 in
set_option maxRecDepth 100000 in
theorem who_yes (b mb N i n cc : Nat) (A : Option Addr) (c : Bool) (p : Pl) (f : Int → Option Value) (id : Int) (w : World) (h : WhoAt w b mb N p f) (hs : 1 ≤ p.size) (hid : St.i64p id) (hc : 1 ≤ id ∧ id ≤ p.count) (hf : f id = some (.agg #[.slice A n cc, .int .i64 (i : Nat), .bool c])) (hp : p.live < 18446744073709551616) (hi : i < 64) (hv : p.live.testBit i = true) :
    Calls Tryz.prog 45 #[.pointer (some ⟨b, 0, none⟩), .int .i64 id] w fun e w' => e = .returned (.tuple #[.agg #[.slice A n cc, .int .i64 (i : Nat), .bool c], .int .i64 0]) ∧ Below w.heap.size w w' := by
  have HX := Lib.hid (Tx.Blk.new w zeroS3 115)
  have HB := Lib.hid (Tx.below_new w (.cells zeroS3 115))
  have H := Lib.hid (h.below HB.out)
  have c99 := H.out.count
  have c101 := H.out.map
  have hl := look_seat hid H.out.mp
  rw [hf] at hl
  have HX2 := Lib.hid (HX.out.alloc (.cells #[.slice A n cc, .int .i64 (i : Nat), .bool c] 115))
  have HY2 := Lib.hid (Tx.Blk.new (w.alloc (.cells zeroS3 115)) #[.slice A n cc, .int .i64 (i : Nat), .bool c] 115)
  have HB2 := Lib.hid (HB.out.alloc HB.out.size (.cells #[.slice A n cc, .int .i64 (i : Nat), .bool c] 115))
  have H2 := Lib.hid (H.out.below (Tx.below_new _ (.cells #[.slice A n cc, .int .i64 (i : Nat), .bool c] 115)))
  have hlx : (Option.getD (some (Value.agg #[.slice A n cc, .int .i64 (i : Nat), .bool c])) zeroSeat) = .agg #[.slice A n cc, .int .i64 (i : Nat), .bool c] := rfl
  rw [hlx] at hl
  have HV := Lib.hid hv
  clear h hf hlx hv
  unfold zeroS3 at *
  have h0 : ¬ id < 1 := by omega
  have h1 : ¬ p.count < id := by omega
  go_enter Tryz.func45, Tryz.ntmps45
  go_wp2_with (go_at_call 36; refine (made_yes _ _ _ H.out.size hs).mono ?_; rintro e w' ⟨rfl, rfl⟩)
  refine (over_any _ _ _ _ _ _ H2.out.live (Tx.cell_lt H2.out.live) hp hi).mono ?_
  rintro e w1 ⟨rfl, hb1⟩
  rw [HV.out]
  have HB3 := Lib.hid (HB2.out.trans (hb1.mono HB2.out.size))
  have HX3 := Lib.hid (show Tx.Blk w1 w.heap.size _ _ from (hb1.block _ HX2.out.lt).trans HX2.out)
  have HY3 := Lib.hid (show Tx.Blk w1 (w.alloc (.cells #[.slice none 0 0, .int .i64 0, .bool false] 115)).heap.size _ _ from (hb1.block _ HY2.out.lt).trans HY2.out)
  rw [Tx.size_new] at HY3
  clear hb1
  have x0 := HX3.out.cell 0
  have x1 := HX3.out.cell 1
  have x2 := HX3.out.cell 2
  have xf := HX3.out.free
  have y0 := HY3.out.cell 0
  have y1 := HY3.out.cell 1
  have y2 := HY3.out.cell 2
  have HP := Lib.hid (blk_put3 HX3.out rfl (.slice A n cc) (.int .i64 (i : Nat)) (.bool c))
  have HPB := Lib.hid (below_put3 HB3.out (Nat.le_refl w.heap.size) (.slice A n cc) (.int .i64 (i : Nat)) (.bool c))
  unfold put3 at HP HPB
  go_wp2
  exact bodyPost_ret (results_seat rfl _ _ w.heap.size 115 _ _ _ rfl rfl HP.out Tryz.underlying115 seat_size) rfl ⟨rfl, HPB.out⟩
end Go.Proofs.YtfdfiiocccafkaaGreatDoor.En
namespace Go.Proofs.YtfdfiiocccafkaaGreatDoor.En
open Go.RowKit
section
variable {F : Nat → Prop} {w : World} {b N : Nat} {g : Eng} {sA : Option Addr} {sc mb : Nat} {lv : Value} {T : Nat → Value} {X : List Xe}
theorem who_live (h : EngIs F w b N g sA sc mb lv T X) (hs : Po.Sound g.p) {id : Int} (hid : St.i64p id) {i : Nat} (hL : liveAt g id = some i) {A : Option Addr} {cc : Nat} (hT : T i = .slice A (g.t i).length cc) :
    Calls Tryz.prog 45 #[.pointer (some ⟨b, 0, none⟩), .int .i64 id] w fun e w' => e = .returned (.tuple #[.agg #[.slice A (g.t i).length cc, .int .i64 (i : Nat), .bool (g.c i)], .int .i64 0]) ∧ Below w.heap.size w w' := by
  have hi := liveAt_some hL
  have hc := liveAt_in hs hL
  have hf : seatF T g id = some (.agg #[.slice A (g.t i).length cc, .int .i64 (i : Nat), .bool (g.c i)]) := by
    unfold seatF
    rw [← hi.2.2, slotAt_of hs (.inl hi.2.1)]
    show some (seatV T g i) = _
    unfold seatV
    rw [hT]
  exact who_yes b mb N i _ cc A _ g.p _ id w h.who hs.size.1 hid (by omega) hf hs.live64 (by omega) hi.2.1
theorem who_err (h : EngIs F w b N g sA sc mb lv T X) (hs : Po.Sound g.p) {id : Int} (hid : St.i64p id) (hL : liveAt g id = none) :
    Calls Tryz.prog 45 #[.pointer (some ⟨b, 0, none⟩), .int .i64 id] w fun e w' => e = .returned (.tuple #[.agg #[.slice none 0 0, .int .i64 0, .bool false], .int .i64 (whoE g id)]) ∧ Below w.heap.size w w' := by
  unfold whoE
  by_cases hc : id < 1 ∨ g.p.count < id
  · rw [if_pos hc]
    exact who_none b mb N g.p _ id w h.who hs.size.1 hc
  · rw [if_neg hc]
    cases hf : slotAt g id with
    | none => exact who_gone b mb N g.p _ id w h.who hs.size.1 hid (by omega) (by unfold seatF; rw [hf]; rfl)
    | some i =>
      have hi := slotAt_some hf
      obtain ⟨A, c, hT, _⟩ := h.ts i hi.2.1
      refine who_over b mb N i _ c A (g.c i) g.p _ id w h.who hs.size.1 hid (by omega) (by unfold seatF; rw [hf]; show some (seatV T g i) = _; unfold seatV; rw [hT]) hs.live64 (by omega) ?_
      cases hl : g.p.live.testBit i with
      | false => rfl
      | true => exact absurd hi.2.2 (liveAt_none hL hi.1 hl)
theorem whoE_ne (g : Eng) (id : Int) : whoE g id ≠ 0 := by unfold whoE; split <;> decide
end
set_option maxHeartbeats 2000000 in
set_option maxRecDepth 100000 in
theorem save_any {F : Nat → Prop} {w : World} {b N : Nat} {g : Eng} (h : EngAt F w b N g) (hs : Po.Sound g.p) {id : Int} (hid : St.i64p id) :
    Calls Tryz.prog 20 #[.pointer (some ⟨b, 0, none⟩), .int .i64 id] w fun e w' => e = .returned (.tuple #[.int .i64 (save g id).1, .int .i64 (save g id).2]) ∧ Below w.heap.size w w' := by
  obtain ⟨sA, sc, mb, lv, T, X, h⟩ := h
  have H := Lib.hid h
  have HS := Lib.hid hs
  clear h hs
  unfold save
  cases hL : liveAt g id with
  | none =>
    have HL := Lib.hid hL
    have HN := Lib.hid (whoE_ne g id)
    have hN : ((whoE g id) == 0) = false := by simpa using HN.out
    clear hL
    go_enter Tryz.func20, Tryz.ntmps20
    go_wp2_with (go_at_call 45; refine (who_err H.out HS.out hid HL.out).mono ?_; rintro e w1 ⟨rfl, hb⟩)
    have HB := Lib.hid hb
    clear hb
    go_wp2
    go_ret2
    exact ⟨rfl, HB.out.alloc HB.out.size _⟩
  | some i =>
    have HL := Lib.hid hL
    obtain ⟨A, cc, hT, _⟩ := H.out.ts i (.inl (liveAt_some hL).2.1)
    have HT := Lib.hid hT
    clear hL hT
    go_enter Tryz.func20, Tryz.ntmps20
    go_wp2_with (go_at_call 45; refine (who_live H.out HS.out hid HL.out HT.out).mono ?_; rintro e w1 ⟨rfl, hb⟩)
    have HB := Lib.hid hb
    clear hb
    go_wp2_with (go_at_call 55; refine (Tx.save_any _ _ _ _).mono ?_; rintro e w' ⟨rfl, rfl⟩)
    go_ret2
    exact ⟨rfl, HB.out.alloc HB.out.size _⟩
theorem SlF.box {F : Nat → Prop} {w : World} {A : Option Addr} {c M x o : Nat} {L : List Tx.Sp} {v : Value} (h : Tx.SlAt w A c L) (hf : Tx.Fr M A) (hF : ∀ k, F k → k < M) (hx : x < M) : SlF F (w.setCell ⟨x, o, none⟩ v) A c L :=
  ⟨⟨⟨fun hl => by
    obtain ⟨ad, e, hc⟩ := h.at_.cell hl
    refine ⟨ad, e, fun j u hu => ?_⟩
    have hb := hf ad e
    rw [World.cell?_of_block (w := w) (Below.heap_setCell w _ v _ (by rw [Tx.add_block]; show ad.block ≠ x; omega))]
    exact hc j u hu, h.at_.ok⟩, h.le, h.max⟩, fun _ ad e hx => by have := hf ad e; have := hF _ hx; omega⟩
/- a seat that is written -/
theorem slotAt_setT (g : Eng) (i : Nat) (l : List Tx.Sp) (id : Int) : slotAt (setT g i l) id = slotAt g id := rfl
theorem seatF_setT {g : Eng} (hs : Po.Sound g.p) {T : Nat → Value} {i : Nat} (hi : Po.tk g.p i) (l : List Tx.Sp) (v : Value) (y : Int) :
    (if y = g.p.ids i then some (.agg #[v, .int .i64 (i : Nat), .bool (g.c i)]) else seatF T g y) = seatF (ud T i v) (setT g i l) y := by
  unfold seatF
  rw [slotAt_setT]
  by_cases e : y = g.p.ids i
  · rw [if_pos e, e, slotAt_of hs hi]
    show _ = some (seatV (ud T i v) (setT g i l) i)
    unfold seatV
    rw [ud_same]; rfl
  · rw [if_neg e]
    cases hx : slotAt g y with
    | none => rfl
    | some j =>
      have hj := slotAt_some hx
      have ne : j ≠ i := fun e2 => e (by rw [← e2]; exact hj.2.2.symm)
      show some (seatV T g j) = some (seatV (ud T i v) (setT g i l) j)
      unfold seatV
      rw [ud_other ne]; rfl
section
variable {F : Nat → Prop} {w : World} {b N : Nat} {g : Eng} {sA : Option Addr} {sc mb : Nat} {lv : Value} {T : Nat → Value} {X : List Xe}
theorem EngIs.kpm {w' : World} (h : EngIs F w b N g sA sc mb lv T X) (hg : w.grownBy w' (some mb)) : Kp F w w' := (Kp.refl F w).grown hg (fun k e => by cases e; exact .inl h.Fm)
theorem EngIs.drew (h : EngIs F w b N g sA sc mb lv T X) : EngIs F w.drew b N g sA sc mb lv T X := h.below ((Below.refl _ _).drew)
theorem EngIs.to {a : World} {K : Eng} (h : EngIs F w b N K sA sc mb lv T X) (hk : Kp F a w) : EngTo F a b N K w := ⟨F, ⟨_, _, _, _, _, _, h⟩, hk, fun _ _ h => h⟩
theorem EngIs.update {w' : World} (h : EngIs F w b N g sA sc mb lv T X) (hs : Po.Sound g.p) {i : Nat} (hi : Po.tk g.p i) {l : List Tx.Sp} {A : Option Addr} {c sz : Nat}
    (hm : Tx.MapV w' mb (N + 1) sz zeroSeat (fun t => if t = g.p.ids i then some (.agg #[.slice A l.length c, .int .i64 (i : Nat), .bool (g.c i)]) else seatF T g t)) (hg : w.grownBy w' (some mb)) (hl : SlF F w A c l) :
    EngIs F w' b (N + 1) (setT g i l) sA sc mb lv (ud T i (.slice A l.length c)) X := by
  have hk := h.kpm hg
  refine ⟨h.raw.other (hg.block b h.raw.lt (fun e => by cases e; exact h.bm rfl)), h.st.kp hk, ⟨sz, hm.congr (seatF_setT hs hi l _)⟩, ?_, h.lg.kept hg (.inr h.ml), h.xs, fun x hx => (h.xe x hx).kp hk, h.foot⟩
  intro j hj
  show ∃ A' c', ud T i (.slice A l.length c) j = .slice A' (ud g.t i l j).length c' ∧ SlF F w' A' c' (ud g.t i l j)
  by_cases e : j = i
  · rw [e, ud_same, ud_same]
    exact ⟨A, c, rfl, hl.kp hk⟩
  · rw [ud_other e, ud_other e]
    obtain ⟨A', c', e1, h1⟩ := h.ts j hj
    exact ⟨A', c', e1, h1.kp hk⟩
end
set_option maxHeartbeats 2000000 in
set_option maxRecDepth 100000 in
theorem back_any {F : Nat → Prop} {w : World} {b N : Nat} {g : Eng} (h : EngAt F w b N g) (hs : Po.Sound g.p) (hN : N < 4000) (ht : ∀ i, Po.tk g.p i → (g.t i).length ≤ 200) {id tu : Int} (hid : St.i64p id) (hto : St.i64p tu) :
    Calls Tryz.prog 31 #[.pointer (some ⟨b, 0, none⟩), .int .i64 id, .int .i64 tu] w fun e w' => e = .returned (.int .i64 (back g id tu).2) ∧ EngTo F w b (N + 1) (back g id tu).1 w' := by
  obtain ⟨sA, sc, mb, lv, T, X, h⟩ := h
  have H := Lib.hid h
  have HS := Lib.hid hs
  clear h hs
  unfold back
  cases hL : liveAt g id with
  | none =>
    have HL := Lib.hid hL
    have HN := Lib.hid (whoE_ne g id)
    have hN : ((whoE g id) == 0) = false := by simpa using HN.out
    clear hL
    go_enter Tryz.func31, Tryz.ntmps31
    go_wp2_with (go_at_call 45; refine (who_err H.out HS.out hid HL.out).mono ?_; rintro e w1 ⟨rfl, hb⟩)
    have HB := Lib.hid hb
    clear hb
    go_wp2
    go_ret
    exact ⟨rfl, EngTo.keep ⟨_, _, _, _, _, _, H.out.mono (Nat.le_succ _)⟩ (HB.out.alloc HB.out.size _)⟩
  | some i =>
    have HL := Lib.hid hL
    have HI := Lib.hid (liveAt_some hL)
    obtain ⟨A, cc, hT, hsl⟩ := H.out.ts i (.inl HI.out.2.1)
    have HT := Lib.hid hT
    have HSL := Lib.hid hsl
    have HTL := Lib.hid (ht i (.inl HI.out.2.1))
    clear hL hT hsl ht
    by_cases hto' : 0 ≤ tu ∧ tu ≤ ((g.t i).length : Int)
    · obtain ⟨k, rfl⟩ := Int.eq_ofNat_of_zero_le hto'.1
      have HK := Lib.hid (show k ≤ (g.t i).length by omega)
      show Calls _ _ _ _ fun e w' => e = .returned (.int .i64 (if 0 ≤ (k : Int) ∧ (k : Int) ≤ ((g.t i).length : Int) then _ else _ : Eng × Int).2) ∧ EngTo F w b (N + 1) (if 0 ≤ (k : Int) ∧ (k : Int) ≤ ((g.t i).length : Int) then _ else _ : Eng × Int).1 w'
      rw [if_pos hto', Int.toNat_natCast]
      clear hto'
      go_enter Tryz.func31, Tryz.ntmps31
      go_wp2_with (go_at_call 45; refine (who_live H.out HS.out hid HL.out HT.out).mono ?_; rintro e w1 ⟨rfl, hb⟩)
      have HB := Lib.hid hb
      have HBX := Lib.hid (Tx.Blk.new w1 #[.slice A (g.t i).length cc, .int .i64 (i : Nat), .bool (g.c i)] 115)
      have HB1 := Lib.hid (HB.out.alloc HB.out.size (.cells #[.slice A (g.t i).length cc, .int .i64 (i : Nat), .bool (g.c i)] 115))
      clear hb
      go_wp2_with fail
      refine (Tx.back_yes A cc k (g.t i) _ (HSL.out.sl.below HB1.out).at_ HSL.out.sl.le HSL.out.sl.max (by have := HTL.out; omega) HK.out).mono ?_
      rintro e w2 ⟨A2, c2, rfl, hv, hb2, hf2⟩
      have HBX2 := Lib.hid (show Tx.Blk w2 w1.heap.size _ _ from (hb2.block _ HBX.out.lt).trans HBX.out)
      have x0 := HBX2.out.cell 0
      have xf := HBX2.out.free
      have HB2 := Lib.hid (HB1.out.trans (hb2.mono HB1.out.size))
      have HS3 := Lib.hid (SlF.box (F := F) (x := w1.heap.size) (o := 0) (v := .slice A2 (Tx.backL (g.t i) k).length c2) hv hf2 (fun q hq => Nat.lt_of_lt_of_le (H.out.lt q hq) HB1.out.size) (by rw [Tx.size_new]; omega))
      clear hv hb2 hf2
      go_wp2
      have HB3 := Lib.hid (HB2.out.setCell (p := ⟨w1.heap.size, 0, none⟩) HB.out.size (.slice A2 (Tx.backL (g.t i) k).length c2))
      have HBX3 := Lib.hid (HBX2.out.set 0 (.slice A2 (Tx.backL (g.t i) k).length c2))
      have HW := Lib.hid (H.out.below HB3.out)
      generalize w2.setCell ⟨w1.heap.size, 0, none⟩ (.slice A2 (Tx.backL (g.t i) k).length c2) = W at *
      have m101 := HW.out.raw.map_
      have y0 := HBX3.out.cell 0
      have y1 := HBX3.out.cell 1
      have y2 := HBX3.out.cell 2
      obtain ⟨sz, hmp⟩ := HW.out.mp
      obtain ⟨W', hrun, hm, hg⟩ := Tx.MapV.update (W := W.drew) hmp Tryz.underlying94 (by omega) hid (.agg #[.slice A2 (Tx.backL (g.t i) k).length c2, .int .i64 (i : Nat), .bool (g.c i)])
      have HM := Lib.hid hm
      have HG := Lib.hid hg
      clear hm hg hmp x0 xf
      go_region_with fail
      all_goals
        go_wp2
        go_ret
        have hE := HI.out.2.2
        have hm := HM.out
        rw [← hE] at hm
        exact ⟨rfl, (HW.out.drew.update HS.out (.inl HI.out.2.1) hm HG.out (HS3.out.kp (.of_below ((Below.refl _ _).drew)))).to ((Kp.of_below HB3.out.drew).trans (HW.out.drew.kpm HG.out))⟩
    · show Calls _ _ _ _ fun e w' => e = .returned (.int .i64 (if 0 ≤ tu ∧ tu ≤ ((g.t i).length : Int) then _ else _ : Eng × Int).2) ∧ EngTo F w b (N + 1) (if 0 ≤ tu ∧ tu ≤ ((g.t i).length : Int) then _ else _ : Eng × Int).1 w'
      rw [if_neg hto']
      have HT' := Lib.hid hto'
      clear hto'
      go_enter Tryz.func31, Tryz.ntmps31
      go_wp2_with (go_at_call 45; refine (who_live H.out HS.out hid HL.out HT.out).mono ?_; rintro e w1 ⟨rfl, hb⟩)
      have HB := Lib.hid hb
      have HBX := Lib.hid (Tx.Blk.new w1 #[.slice A (g.t i).length cc, .int .i64 (i : Nat), .bool (g.c i)] 115)
      have HB1 := Lib.hid (HB.out.alloc HB.out.size (.cells #[.slice A (g.t i).length cc, .int .i64 (i : Nat), .bool (g.c i)] 115))
      clear hb
      go_wp2_with fail
      refine (Tx.back_no A cc (g.t i) tu _ (HSL.out.sl.below HB1.out).at_ (by have := HTL.out; omega) HT'.out).mono ?_
      rintro e w2 ⟨A2, c2, rfl, hv, hb2, hf2⟩
      have HBX2 := Lib.hid (show Tx.Blk w2 w1.heap.size _ _ from (hb2.block _ HBX.out.lt).trans HBX.out)
      have x0 := HBX2.out.cell 0
      have xf := HBX2.out.free
      have HB2 := Lib.hid (HB1.out.trans (hb2.mono HB1.out.size))
      have HB3 := Lib.hid (HB2.out.setCell (p := ⟨w1.heap.size, 0, none⟩) HB.out.size (.slice A2 (g.t i).length c2))
      clear hv hb2 hf2
      go_wp2
      go_ret
      exact ⟨rfl, EngTo.keep ⟨_, _, _, _, _, _, H.out.mono (Nat.le_succ _)⟩ HB3.out⟩
end Go.Proofs.YtfdfiiocccafkaaGreatDoor.En
namespace Go.Proofs.YtfdfiiocccafkaaGreatDoor.En
open Go.RowKit
theorem write_none {g : Eng} {id x k n : Int} (h : liveAt g id = none) : write g id x k n = (g, whoE g id) := by unfold write; rw [h]
theorem write_arg {g : Eng} {id x k n : Int} {i : Nat} (h : liveAt g id = some i) (hx : ¬ St.has g.s x) : write g id x k n = (g, 2) := by unfold write; rw [h]; exact if_neg hx
theorem write_no {g : Eng} {id x k n : Int} {i : Nat} (h : liveAt g id = some i) (hx : St.has g.s x) (he : Tx.addE (g.t i) ⟨x, k, n, true⟩ ≠ 0) : write g id x k n = (g, Tx.addE (g.t i) ⟨x, k, n, true⟩) := by
  unfold write; rw [h]; show (if St.has g.s x then _ else _) = _; rw [if_pos hx, if_neg he]
theorem write_yes {g : Eng} {id x k n : Int} {i : Nat} (h : liveAt g id = some i) (hx : St.has g.s x) (he : Tx.addE (g.t i) ⟨x, k, n, true⟩ = 0) : write g id x k n = (setT g i (g.t i ++ [⟨x, k, n, true⟩]), 0) := by
  unfold write; rw [h]; show (if St.has g.s x then _ else _) = _; rw [if_pos hx, if_pos he]
theorem sget_yes {A : Option Addr} {c : Nat} {L : List St.Vr} {x : Int} {w : World} (h : Sx.VarsAt w A L) (hx : St.has L x) :
    Calls Tryz.prog 63 #[.slice A L.length c, .int .i64 x] w fun e w' => e = .returned (.tuple #[.agg #[.int .i64 (St.at_ L x).k, .int .i64 (St.at_ L x).n, .int .i64 (St.at_ L x).ver, .int .i64 (St.at_ L x).wr, .int .u64 ((St.at_ L x).m : Nat)], .int .i64 0]) ∧ Below w.heap.size w w' := by
  have := Sx.get_any A c L x w h
  rwa [Sx.getR_yes hx] at this
theorem sget_no {A : Option Addr} {c : Nat} {L : List St.Vr} {x : Int} {w : World} (h : Sx.VarsAt w A L) (hx : ¬ St.has L x) :
    Calls Tryz.prog 63 #[.slice A L.length c, .int .i64 x] w fun e w' => e = .returned (.tuple #[.agg #[.int .i64 0, .int .i64 0, .int .i64 0, .int .i64 0, .int .u64 0], .int .i64 3]) ∧ Below w.heap.size w w' := by
  have := Sx.get_any A c L x w h
  rwa [Sx.getR_no hx] at this
set_option maxHeartbeats 2000000 in
set_option maxRecDepth 100000 in
theorem write_any {F : Nat → Prop} {w : World} {b N : Nat} {g : Eng} (h : EngAt F w b N g) (hs : Po.Sound g.p) (hN : N < 4000) (ht : ∀ i, Po.tk g.p i → (g.t i).length ≤ 200) {id x k n : Int} (hid : St.i64p id) (hx : St.i64p x) (hk : St.i64p k) (hn : St.i64p n) :
    Calls Tryz.prog 29 #[.pointer (some ⟨b, 0, none⟩), .int .i64 id, .int .i64 x, .agg #[.int .i64 k, .int .i64 n]] w fun e w' => e = .returned (.int .i64 (write g id x k n).2) ∧ EngTo F w b (N + 1) (write g id x k n).1 w' := by
  obtain ⟨sA, sc, mb, lv, T, X, h⟩ := h
  have HB0 := Lib.hid (Tx.below_new w (.cells #[.int .i64 k, .int .i64 n] 71))
  have HV := Lib.hid (Tx.Blk.new w #[.int .i64 k, .int .i64 n] 71)
  have H := Lib.hid (h.below HB0.out)
  have HE := Lib.hid (EngTo.keep (b := b) (N := N + 1) ⟨_, _, _, _, _, _, h.mono (Nat.le_succ _)⟩ HB0.out)
  have H0 := Lib.hid (h.mono (Nat.le_succ N))
  have HS := Lib.hid hs
  clear h hs
  cases hL : liveAt g id with
  | none =>
    have HL := Lib.hid hL
    rw [write_none hL]
    have HN := Lib.hid (whoE_ne g id)
    have hN : ((whoE g id) == 0) = false := by simpa using HN.out
    clear hL
    go_enter Tryz.func29, Tryz.ntmps29
    go_wp2_with (go_at_call 45; refine (who_err H.out HS.out hid HL.out).mono ?_; rintro e w1 ⟨rfl, hb⟩)
    have HB := Lib.hid (HB0.out.trans (hb.mono HB0.out.size))
    clear hb
    go_wp2
    go_ret
    exact ⟨rfl, EngTo.keep ⟨_, _, _, _, _, _, H0.out⟩ (HB.out.alloc HB.out.size _)⟩
  | some i =>
    have HL := Lib.hid hL
    have HI := Lib.hid (liveAt_some hL)
    obtain ⟨A, cc, hT, hsl⟩ := H.out.ts i (.inl HI.out.2.1)
    have HT := Lib.hid hT
    have HSL := Lib.hid hsl
    have HTL := Lib.hid (ht i (.inl HI.out.2.1))
    clear hL hT hsl ht
    by_cases hxs : St.has g.s x
    · have HXS := Lib.hid hxs
      have HA := Lib.hid (show Tx.addL (g.t i) ⟨x, k, n, true⟩ = if Tx.addE (g.t i) ⟨x, k, n, true⟩ = 0 then g.t i ++ [⟨x, k, n, true⟩] else g.t i from rfl)
      have HXX := Lib.hid (And.intro hx (And.intro hk hn))
      clear hx hk hn hxs
      by_cases he : Tx.addE (g.t i) ⟨x, k, n, true⟩ = 0
      · rw [write_yes HL.out HXS.out he]
        obtain ⟨L', hL'⟩ : ∃ L' : List Tx.Sp, g.t i ++ [⟨x, k, n, true⟩] = L' := ⟨_, rfl⟩
        rw [hL']
        have ha := HA.out
        rw [if_pos he, hL'] at ha
        clear hL'
        have HE0 := Lib.hid he
        have HAE := Lib.hid ha
        clear he ha
        go_enter Tryz.func29, Tryz.ntmps29
        go_wp2_with fail
        refine (who_live H.out HS.out hid HL.out HT.out).mono ?_
        rintro e w1 ⟨rfl, hb⟩
        have HB := Lib.hid hb
        have HBX := Lib.hid (Tx.Blk.new w1 #[.slice A (g.t i).length cc, .int .i64 (i : Nat), .bool (g.c i)] 115)
        have HB1 := Lib.hid (HB.out.alloc HB.out.size (.cells #[.slice A (g.t i).length cc, .int .i64 (i : Nat), .bool (g.c i)] 115))
        have HE1 := Lib.hid (H.out.below HB1.out)
        have c100 := HE1.out.raw.store_
        clear hb
        go_wp2_with fail
        refine (sget_yes HE1.out.st.at_ HXS.out).mono ?_
        rintro e w2 ⟨rfl, hb2⟩
        have HB2 := Lib.hid (HB1.out.trans (hb2.mono HB1.out.size))
        have HBX2 := Lib.hid (show Tx.Blk w2 w1.heap.size _ _ from (hb2.block _ HBX.out.lt).trans HBX.out)
        have HV2 := Lib.hid (show Tx.Blk w2 w.heap.size _ _ from (HB2.out.block _ HV.out.lt).trans HV.out)
        have x0 := HBX2.out.cell 0
        have v0 := HV2.out.cell 0
        have v1 := HV2.out.cell 1
        have HLT := Lib.hid (show w1.heap.size < w2.heap.size from HBX2.out.lt)
        clear hb2 c100
        go_wp2_with fail
        refine (Tx.write_any A cc (g.t i) x k n _ (HSL.out.sl.below HB2.out).at_ (by have := HTL.out; omega) HXX.out.1 HXX.out.2.1 HXX.out.2.2).mono ?_
        rw [HAE.out, HE0.out]
        rintro e w3 ⟨A2, c2, rfl, hv, hb3, hf3⟩
        have HBX3 := Lib.hid (show Tx.Blk w3 w1.heap.size _ _ from (hb3.block _ HBX2.out.lt).trans HBX2.out)
        have z0 := HBX3.out.cell 0
        have zf := HBX3.out.free
        have HB3 := Lib.hid (HB2.out.trans (hb3.mono HB2.out.size))
        have HS3 := Lib.hid (SlF.box (F := F) (x := w1.heap.size) (o := 0) (v := .slice A2 L'.length c2) hv hf3 (fun q hq => Nat.lt_of_lt_of_le (H.out.lt q hq) HB2.out.size) HLT.out)
        clear hv hb3 hf3 x0 v0 v1
        go_wp2
        have HB4 := Lib.hid (HB3.out.setCell (p := ⟨w1.heap.size, 0, none⟩) HB.out.size (.slice A2 L'.length c2))
        have HBX4 := Lib.hid (HBX3.out.set 0 (.slice A2 L'.length c2))
        have HW := Lib.hid (H.out.below HB4.out)
        generalize w3.setCell ⟨w1.heap.size, 0, none⟩ (.slice A2 L'.length c2) = W at *
        have m101 := HW.out.raw.map_
        have y0 := HBX4.out.cell 0
        have y1 := HBX4.out.cell 1
        have y2 := HBX4.out.cell 2
        obtain ⟨sz, hmp⟩ := HW.out.mp
        obtain ⟨W', hrun, hm, hg⟩ := Tx.MapV.update (W := W.drew) hmp Tryz.underlying94 (by omega) hid (.agg #[.slice A2 L'.length c2, .int .i64 (i : Nat), .bool (g.c i)])
        have HM := Lib.hid hm
        have HG := Lib.hid hg
        clear hm hg hmp z0 zf
        go_region_with fail
        all_goals
          go_wp2
          go_ret
          have hE := HI.out.2.2
          have hm := HM.out
          rw [← hE] at hm
          exact ⟨rfl, (HW.out.drew.update HS.out (.inl HI.out.2.1) hm HG.out (HS3.out.kp (.of_below ((Below.refl _ _).drew)))).to ((Kp.of_below (HB0.out.trans (HB4.out.drew.mono HB0.out.size))).trans (HW.out.drew.kpm HG.out))⟩
      · rw [write_no HL.out HXS.out he]
        have hne : ((Tx.addE (g.t i) ⟨x, k, n, true⟩) == 0) = false := by simpa using he
        clear he
        go_enter Tryz.func29, Tryz.ntmps29
        go_wp2_with fail
        refine (who_live H.out HS.out hid HL.out HT.out).mono ?_
        rintro e w1 ⟨rfl, hb⟩
        have HB := Lib.hid hb
        have HBX := Lib.hid (Tx.Blk.new w1 #[.slice A (g.t i).length cc, .int .i64 (i : Nat), .bool (g.c i)] 115)
        have HB1 := Lib.hid (HB.out.alloc HB.out.size (.cells #[.slice A (g.t i).length cc, .int .i64 (i : Nat), .bool (g.c i)] 115))
        have HE1 := Lib.hid (H.out.below HB1.out)
        have c100 := HE1.out.raw.store_
        clear hb
        go_wp2_with fail
        refine (sget_yes HE1.out.st.at_ HXS.out).mono ?_
        rintro e w2 ⟨rfl, hb2⟩
        have HB2 := Lib.hid (HB1.out.trans (hb2.mono HB1.out.size))
        have HBX2 := Lib.hid (show Tx.Blk w2 w1.heap.size _ _ from (hb2.block _ HBX.out.lt).trans HBX.out)
        have HV2 := Lib.hid (show Tx.Blk w2 w.heap.size _ _ from (HB2.out.block _ HV.out.lt).trans HV.out)
        have x0 := HBX2.out.cell 0
        have v0 := HV2.out.cell 0
        have v1 := HV2.out.cell 1
        have HLT := Lib.hid (show w1.heap.size < w2.heap.size from HBX2.out.lt)
        clear hb2 c100
        go_wp2_with fail
        refine (Tx.write_any A cc (g.t i) x k n _ (HSL.out.sl.below HB2.out).at_ (by have := HTL.out; omega) HXX.out.1 HXX.out.2.1 HXX.out.2.2).mono ?_
        rintro e w3 ⟨A2, c2, rfl, hv, hb3, hf3⟩
        have HBX3 := Lib.hid (show Tx.Blk w3 w1.heap.size _ _ from (hb3.block _ HBX2.out.lt).trans HBX2.out)
        have z0 := HBX3.out.cell 0
        have zf := HBX3.out.free
        have HB3 := Lib.hid (HB2.out.trans (hb3.mono HB2.out.size))
        have HS3 := Lib.hid (SlF.box (F := F) (x := w1.heap.size) (o := 0) (v := .slice A2 (Tx.addL (g.t i) ⟨x, k, n, true⟩).length c2) hv hf3 (fun q hq => Nat.lt_of_lt_of_le (H.out.lt q hq) HB2.out.size) HLT.out)
        clear hv hb3 hf3 x0 v0 v1
        have HB4 := Lib.hid (HB3.out.setCell (p := ⟨w1.heap.size, 0, none⟩) HB.out.size (.slice A2 (Tx.addL (g.t i) ⟨x, k, n, true⟩).length c2))
        clear HS3
        go_wp2
        go_ret
        exact ⟨rfl, EngTo.keep ⟨_, _, _, _, _, _, H0.out⟩ (HB0.out.trans (HB4.out.mono HB0.out.size))⟩
    · rw [write_arg HL.out hxs]
      have HXS := Lib.hid hxs
      clear hxs
      go_enter Tryz.func29, Tryz.ntmps29
      go_wp2_with fail
      refine (who_live H.out HS.out hid HL.out HT.out).mono ?_
      rintro e w1 ⟨rfl, hb⟩
      have HB := Lib.hid hb
      have HB1 := Lib.hid (HB.out.alloc HB.out.size (.cells #[.slice A (g.t i).length cc, .int .i64 (i : Nat), .bool (g.c i)] 115))
      have HE1 := Lib.hid (H.out.below HB1.out)
      have c100 := HE1.out.raw.store_
      clear hb
      go_wp2_with fail
      refine (sget_no HE1.out.st.at_ HXS.out).mono ?_
      rintro e w2 ⟨rfl, hb2⟩
      have HB2 := Lib.hid (HB1.out.trans (hb2.mono HB1.out.size))
      clear hb2
      go_wp2
      go_ret
      exact ⟨rfl, EngTo.keep ⟨_, _, _, _, _, _, H0.out⟩ (HB0.out.trans (HB2.out.mono HB0.out.size))⟩
end Go.Proofs.YtfdfiiocccafkaaGreatDoor.En
namespace Go.Proofs.YtfdfiiocccafkaaGreatDoor.En
open Go.RowKit
attribute [local go_sem ↓] Go.wp_at_zero Go.wp_at_succ
theorem IntsAt.below {w w' : World} {A : Option Addr} {n : Nat} {zs : List Int} (h : IntsAt w A n zs) (hb : Below w.heap.size w w') : IntsAt w' A n zs :=
  ⟨h.1, fun hn => by
    obtain ⟨ad, e, hc⟩ := h.2.1 hn
    exact ⟨ad, e, fun j u hu => (hb.cell (Tx.cell_lt (hc j u hu))).trans (hc j u hu)⟩, h.2.2⟩
/-- a pool and whether all edges are there. -/
def BehindPost (o : Option Pl) (w : World) (e : Ending) (w' : World) : Prop := (∃ q, e = .returned (.tuple #[.agg (poolA q), .bool o.isSome]) ∧ (∀ r, o = some r → q = r)) ∧ Below w.heap.size w w'
def BhRel (p : Pl) (s : Nat) (l : List Int) (w : World) (i : Value) (wr : World) : Prop :=
  ∃ (k : Nat) (q : Pl), k ≤ l.length ∧ i = .int .i64 k ∧ behind q s (l.drop k) = behind p s l ∧ Po.Sound q ∧ q.count = p.count ∧ QSt q 87 w zeroP wr
theorem behind_step {q : Pl} {s k : Nat} {l : List Int} {a : Int} (h : l[k]? = some a) : behind q s (l.drop k) = if (Po.edge q a (s : Nat)).2 = 0 then behind (Po.edge q a (s : Nat)).1 s (l.drop (k + 1)) else none := by
  obtain ⟨hl, rfl⟩ := List.getElem?_eq_some_iff.1 h
  rw [List.drop_eq_getElem_cons hl]
  rfl
theorem QSt.box {p q r : Pl} {t : Nat} {w W : World} (h : QSt p t w q W) : QSt r t w q (W.setRow w.heap.size (poolA r)) :=
  ⟨poolAt_put h.po, h.re.setRow _ (by omega), setRow_below h.bel (Nat.le_refl _)⟩
set_option maxHeartbeats 2000000 in
set_option maxRecDepth 100000 in
theorem behind_any (p : Pl) (s : Nat) (A : Option Addr) (c : Nat) (l : List Int) (w : World) (hp : Po.Sound p) (hc : p.count ≤ 1000000) (hs : s < 32) (h : IntsAt w A l.length l) (hl : l.length ≤ 100000) (hT : TabAt w) :
    Calls Tryz.prog 66 #[.agg (poolA p), .int .i64 (s : Nat), .slice A l.length c] w (BehindPost (behind p s l) w) := by
  have hz := (zero_of_info zero_pool_info).1
  have H0 := Lib.hid (qst_first p 87 w)
  have HP := Lib.hid hp
  have HT := Lib.hid hT
  have H := Lib.hid h
  clear hp hT h
  go_enter Tryz.func66, Tryz.ntmps66
  go_wp2
  go_loopw [13] (BhRel p s l w) (fun i _ => l.length - (intOf i).toNat)
  case atStart => exact ⟨0, p, by omega, rfl, rfl, HP.out, rfl, H0.out⟩
  case round =>
    obtain ⟨k, q, hk, rfl, hbe, hq, hqc, hst⟩ := hrel
    have HS := Lib.hid hst
    have HQ := Lib.hid hq
    have HBE := Lib.hid hbe
    have HQC := Lib.hid hqc
    clear hst hq hbe hqc
    by_cases hlt : k < l.length
    · obtain ⟨ad, a, rfl, ha, hca, ha0, ha1⟩ := (IntsAt.below H.out HS.out.bel).at_ hlt
      have HE := Lib.hid (behind_step (q := q) (s := s) ha)
      have hlt' : (k : Int) < (l.length : Int) := by omega
      clear ha
      go_wp2_with (refine load_pool rfl 87 (.tmp 3) rfl w.heap.size q 87 rfl _ HS.out.po Tryz.underlying87 rfl pool_info ?_)
      refine (edge_any q a (s : Nat) _ (HQ.out.ok (by have := HQC.out; omega)) ⟨ha0, ha1⟩ (by omega) (tab_keep HT.out HS.out.bel)).mono ?_
      rintro e w1 ⟨rfl, hb1⟩
      have HS1 := Lib.hid (HS.out.below hb1)
      have HQ1 := Lib.hid (Po.edge_sound HQ.out a (s : Nat))
      have HQC1 := Lib.hid (show (Po.edge q a (s : Nat)).1.count = p.count by rw [(Po.edge_count q a (s : Nat)).1]; exact HQC.out)
      clear hb1 HS hca
      by_cases he : (Po.edge q a (s : Nat)).2 = 0
      · have HE0 := Lib.hid he
        generalize hq1 : (Po.edge q a (s : Nat)).1 = q1 at *
        rw [he]
        have HS2 := Lib.hid (QSt.box (r := q1) HS1.out)
        clear he
        go_wp2_with (refine store_pool rfl 87 (.tmp 3) (.tmp 22) rfl rfl w.heap.size _ q1 87 rfl rfl HS1.out.po pool_info ?_)
        have HE2 := HE.out
        rw [if_pos HE0.out] at HE2
        refine ⟨⟨k + 1, q1, by omega, by go_num, by rw [← HBE.out, HE2], HQ1.out, HQC1.out, HS2.out⟩, by simp [intOf]; omega⟩
      · have hne : ((Po.edge q a (s : Nat)).2 == 0) = false := by simpa using he
        have HE2 := Lib.hid (show behind p s l = none by rw [← HBE.out, HE.out, if_neg he])
        clear he
        generalize (Po.edge q a (s : Nat)).1 = q1 at *
        have HS2 := Lib.hid (QSt.box (r := q1) HS1.out)
        go_wp2_with (first
          | (refine store_pool rfl 87 (.tmp 3) (.tmp 22) rfl rfl w.heap.size _ q1 87 rfl rfl HS1.out.po pool_info ?_)
          | (refine load_pool rfl 87 (.tmp 3) rfl w.heap.size q1 87 rfl _ HS2.out.po Tryz.underlying87 rfl pool_info ?_)
          | (refine store_pool rfl 87 (.tmp 6) (.tmp 26) rfl rfl (w.heap.size + 1) _ q1 87 rfl rfl HS2.out.re pool_info ?_))
        refine bodyPost_ret (results_pool rfl _ _ (w.heap.size + 1) 87 q1 _ (.bool false) rfl rfl (HS2.out.tell _).re Tryz.underlying87 rfl pool_info) rfl ?_
        rw [HE2.out]
        exact ⟨⟨q1, rfl, fun r e => by cases e⟩, (HS2.out.tell _).bel⟩
    · obtain rfl : k = l.length := by omega
      have HE2 := Lib.hid (show behind p s l = some q by rw [← HBE.out, List.drop_length]; rfl)
      go_wp2_with (first
        | (refine load_pool rfl 87 (.tmp 3) rfl w.heap.size q 87 rfl _ HS.out.po Tryz.underlying87 rfl pool_info ?_)
        | (refine store_pool rfl 87 (.tmp 6) (.tmp 28) rfl rfl (w.heap.size + 1) _ q 87 rfl rfl HS.out.re pool_info ?_))
      refine bodyPost_ret (results_pool rfl _ _ (w.heap.size + 1) 87 q _ (.bool true) rfl rfl (HS.out.tell _).re Tryz.underlying87 rfl pool_info) rfl ?_
      rw [HE2.out]
      exact ⟨⟨q, rfl, fun r e => by cases e; rfl⟩, (HS.out.tell _).bel⟩
/- writer -/
/-- a slice of numbers, made behind a point. -/
def IntsPost (l : List Int) (w : World) (e : Ending) (w' : World) : Prop := ∃ A c, e = .returned (.slice A l.length c) ∧ IntsAt w' A l.length l ∧ l.length ≤ c ∧ c ≤ maxLen ∧ Below w.heap.size w w'
set_option maxHeartbeats 1000000 in
theorem writer_own (v : St.Vr) (w : World) (_hv : St.i64p v.wr) :
    Calls Tryz.prog 67 #[.agg #[.int .i64 v.k, .int .i64 v.n, .int .i64 v.ver, .int .i64 v.wr, .int .u64 (v.m : Nat)]] w fun e w' => ∃ u, e = .returned u ∧ w'.ownsRow w.heap.size 3 1 u (writer v).length ((writer v).map fun z => Value.int .i64 z) ∧ Below w.heap.size w w' := by
  have HX := Lib.hid (Sx.varAt_new w v 141)
  have HB := Lib.hid (Tx.below_new w (.cells (Sx.varA v) 141))
  have c3 := HX.out.c3
  unfold Sx.varA at *
  unfold writer
  by_cases h : v.wr < 0
  · rw [if_pos h]
    go_enter Tryz.func67, Tryz.ntmps67
    go_wp2
    go_ret
    exact ⟨_, rfl, World.ownsRow_nil _ _ _ _, HB.out⟩
  · rw [if_neg h]
    have HB2 := Lib.hid (HB.out.alloc HB.out.size (.cells #[.int .i64 v.wr] 3))
    go_enter Tryz.func67, Tryz.ntmps67
    go_wp2
    go_ret
    refine ⟨_, rfl, ?_, HB2.out⟩
    simpa using World.ownsRow_lit (base := w.heap.size) (size := 1) (w.alloc (.cells #[.int .i64 v.k, .int .i64 v.n, .int .i64 v.ver, .int .i64 v.wr, .int .u64 (v.m : Nat)] 141)) #[.int .i64 v.wr] 1 (by rw [Tx.size_new]; omega) (by unfold maxLen; omega) rfl
end Go.Proofs.YtfdfiiocccafkaaGreatDoor.En
namespace Go.Proofs.YtfdfiiocccafkaaGreatDoor.En
open Go.RowKit
section
variable {P : Program} {ops : Array Oper} {Q : Exit → Go.Act → World → Prop} {md : Region.Mode} {S : World → Prop} {z e : Nat}
/-- what is asked behind number j: S ahead of number z; of number e that S stays. -/
structure Held (S : World → Prop) (z e j : Nat) (w w' : World) : Prop where
  strict : j < z → j ≠ e → S w'
  stays : j = e → S w → S w'
/-- whatever order is picked, what is asked holds behind each operation. -/
def anyZ (P : Program) (md : Region.Mode) (ops : Array Oper) (Q : Exit → Go.Act → World → Prop) (S : World → Prop) (z e : Nat) : Nat → Array Bool → Go.Act → World → Prop
  | 0, listed, a, w => Region.ready md ops listed = [] ∧ Q .normal a w
  | fuel + 1, listed, a, w => (Region.ready md ops listed = [] → Q .normal a w) ∧ ∀ i ∈ Region.ready md ops listed, wpOp P ops Q i (fun a' w' => Held S z e i w w' ∧ anyZ P md ops Q S z e fuel (listed.setIfInBounds i true) a' w') a w
theorem anyZ_any : ∀ (fuel : Nat) (listed : Array Bool) (a : Go.Act) (w : World), anyZ P md ops Q S z e fuel listed a w → wpAny P md ops Q fuel listed a w
  | 0, _, _, _, h => h
  | fuel + 1, _, _, _, h => ⟨h.1, fun i hi => wpOp_mono (fun a' w' k => anyZ_any fuel _ a' w' k.2) (h.2 i hi)⟩
theorem set_of (listed : Array Bool) {j k : Nat} (h : (listed.setIfInBounds j true).getD k true = false) : listed.getD k true = false := by
  by_cases e : j = k
  · subst e
    by_cases hl : j < listed.size
    · simp [hl] at h
    · simp [hl] at h
  · rwa [getD_set_ne true e] at h
/-- while i has not come up nothing that waits for it is ready. -/
theorem ready_wait {i : Nat} {listed : Array Bool} {j : Nat} {oj : Oper} (hr : i ∈ Region.ready md ops listed) (hj : j ∈ Region.ready md ops listed) (hoj : ops[j]? = some oj) : ∀ f ∈ oj.after, Region.binds md f = true → f.on ≠ i := by
  intro f he hb heq
  obtain ⟨_, oj', hoj', hall⟩ := mem_ready.1 hj
  obtain rfl : oj = oj' := Option.some.inj (hoj.symm.trans hoj')
  have h1 := hall f he hb
  have h0 := (mem_ready.1 hr).1
  rw [heq] at h1
  by_cases hl : i < listed.size
  · simp [hl] at h0 h1; rw [h0] at h1; cases h1
  · simp [hl] at h1
/-- number i may be taken first, if all from z on wait for it, or for one from z on. -/
theorem anyZ_first {i : Nat} {oi : Oper} {v : Value} (hi : ops[i]? = some oi) (hsel : ∀ (j : Nat) (o : Oper) cs b, ops[j]? = some o → o.op ≠ .select cs b)
    (hQ : ∀ c a w, Q (.panic c) (a.put oi.dst v) w → Q (.panic c) a w) (hz : ∀ j oz, z ≤ j → j ≠ e → ops[j]? = some oz → ∃ f ∈ oz.after, Region.binds md f = true ∧ (f.on = i ∨ (z ≤ f.on ∧ f.on ≠ e ∧ f.on < ops.size))) :
    ∀ (fuel : Nat) (listed : Array Bool) (a : Go.Act) (w : World),
      (∀ j oj, ops[j]? = some oj → j ≠ i → listed.getD j true = false → (∀ f ∈ oj.after, Region.binds md f = true → f.on ≠ i) → oi.apart ops oj = true) → (∀ j, z ≤ j → j ≠ e → j < ops.size → listed.getD j true = false) →
      i ∈ Region.ready md ops listed → YieldsIf P ops S oi v a → S w →
      anyZ P md ops Q S z e fuel (listed.setIfInBounds i true) (a.put oi.dst v) w → anyZ P md ops Q S z e (fuel + 1) listed a w := by
  intro fuel
  induction fuel with
  | zero =>
    intro listed a w _ _ hr hy hS H
    refine ⟨fun h => (by rw [h] at hr; cases hr), fun j hj => ?_⟩
    by_cases he : j = i
    · subst he; exact hy.wpOp hi hS ⟨⟨fun _ _ => hS, fun _ h => h⟩, H⟩
    · have := ready_mono hj he
      rw [H.1] at this; cases this
  | succ fuel ih =>
    intro listed a w hfree hun' hr hy hS H
    refine ⟨fun h => (by rw [h] at hr; cases hr), fun j hj => ?_⟩
    by_cases he : j = i
    · subst he; exact hy.wpOp hi hS ⟨⟨fun _ _ => hS, fun _ h => h⟩, H⟩
    · obtain ⟨hun, oj, hoj, hall⟩ := mem_ready.1 hj
      have hno := ready_wait hr hj hoj
      have hjz : j < z ∨ j = e := by
        rcases Nat.lt_or_ge j z with h | h
        · exact .inl h
        · by_cases hje : j = e
          · exact .inr hje
          · obtain ⟨f, hf, hfb, hfo⟩ := hz j oj h hje hoj
            rcases hfo with hfo | ⟨h1, h2, h3⟩
            · exact absurd hfo (hno f hf hfb)
            · have e1 := hall f hf hfb
              have e2 := hun' f.on h1 h2 h3
              by_cases hl : f.on < listed.size
              · simp [hl] at e1 e2; rw [e1] at e2; cases e2
              · simp [hl] at e1
      have h2 := wpOp_putIf hoj (hfree j oj hoj he hun hno) (fun cs b => hsel i oi cs b hi) (fun cs b => hsel j oj cs b hoj) hQ hy (H.2 j (ready_mono hj he))
      refine wpOp_mono (fun a' w' h3 => ?_) h2
      have hS' : S w' := by
        by_cases hje : j = e
        · exact h3.2.1.stays hje hS
        · rcases hjz with h | h
          · exact h3.2.1.strict h hje
          · exact absurd h hje
      refine ⟨h3.2.1, ih (listed.setIfInBounds j true) a' w' (fun k ok hk hki hu hn => hfree k ok hk hki (set_of listed hu) hn) (fun k h1 h2 h3 => ?_) (ready_mono hr (Ne.symm he)) h3.1 hS' ?_⟩
      · rw [getD_set_ne true (by rcases hjz with h | h <;> omega)]; exact hun' k h1 h2 h3
      · rw [Array.setIfInBounds_comm _ _ he]
        exact h3.2.2
/-- number e may be taken first, if it is the same in every world. -/
theorem anyZ_pure {oe : Oper} {v : Value} (hi : ops[e]? = some oe) (hsel : ∀ (j : Nat) (o : Oper) cs b, ops[j]? = some o → o.op ≠ .select cs b)
    (hQ : ∀ c a w, Q (.panic c) (a.put oe.dst v) w → Q (.panic c) a w) :
    ∀ (fuel : Nat) (listed : Array Bool) (a : Go.Act) (w : World),
      (∀ j oj, ops[j]? = some oj → j ≠ e → listed.getD j true = false → (∀ f ∈ oj.after, Region.binds md f = true → f.on ≠ e) → oe.apart ops oj = true) →
      e ∈ Region.ready md ops listed → YieldsIf P ops (fun _ => True) oe v a →
      anyZ P md ops Q S z e fuel (listed.setIfInBounds e true) (a.put oe.dst v) w → anyZ P md ops Q S z e (fuel + 1) listed a w := by
  intro fuel
  induction fuel with
  | zero =>
    intro listed a w _ hr hy H
    refine ⟨fun h => (by rw [h] at hr; cases hr), fun j hj => ?_⟩
    by_cases he : j = e
    · subst he; exact hy.wpOp hi trivial ⟨⟨fun _ h => absurd rfl h, fun _ h => h⟩, H⟩
    · have := ready_mono hj he
      rw [H.1] at this; cases this
  | succ fuel ih =>
    intro listed a w hfree hr hy H
    refine ⟨fun h => (by rw [h] at hr; cases hr), fun j hj => ?_⟩
    by_cases he : j = e
    · subst he; exact hy.wpOp hi trivial ⟨⟨fun _ h => absurd rfl h, fun _ h => h⟩, H⟩
    · obtain ⟨hun, oj, hoj, _⟩ := mem_ready.1 hj
      have h2 := wpOp_putIf hoj (hfree j oj hoj he hun (ready_wait hr hj hoj)) (fun cs b => hsel e oe cs b hi) (fun cs b => hsel j oj cs b hoj) hQ hy (H.2 j (ready_mono hj he))
      refine wpOp_mono (fun a' w' h3 => ⟨h3.2.1, ih (listed.setIfInBounds j true) a' w' (fun k ok hk hki hu hn => hfree k ok hk hki (set_of listed hu) hn) (ready_mono hr (Ne.symm he)) h3.1 ?_⟩) h2
      rw [Array.setIfInBounds_comm _ _ he]
      exact h3.2.2
def waits (md : Region.Mode) (ops : Array Oper) (listed : Array Bool) (z e i : Nat) : Bool :=
  (List.range ops.size).all fun j => decide (j < z) || j == e || (!(listed.getD j true) && (ops[j]?.map fun oz => oz.after.any fun f => Region.binds md f && (f.on == i || (decide (z ≤ f.on) && !(f.on == e) && decide (f.on < ops.size)))).getD true)
theorem waits_spec {listed : Array Bool} {i : Nat} (h : waits md ops listed z e i = true) (j : Nat) (oz : Oper) (hj : z ≤ j) (hje : j ≠ e) (ho : ops[j]? = some oz) : ∃ f ∈ oz.after, Region.binds md f = true ∧ (f.on = i ∨ (z ≤ f.on ∧ f.on ≠ e ∧ f.on < ops.size)) := by
  unfold waits at h
  have := List.all_eq_true.1 h j (by simpa using (Array.getElem?_eq_some_iff.1 ho).1)
  rw [decide_eq_false (by omega), ho, show (j == e) = false by simpa using hje] at this
  simp only [Option.map_some, Option.getD_some, Bool.false_or, Bool.and_eq_true, Array.any_eq_true] at this
  obtain ⟨_, k, hk, h⟩ := this
  refine ⟨oz.after[k], Array.getElem_mem hk, h.1, ?_⟩
  have h2 := h.2
  simp only [Bool.or_eq_true, Bool.and_eq_true, decide_eq_true_eq, beq_iff_eq, Bool.not_eq_true', beq_eq_false_iff_ne] at h2
  rcases h2 with h2 | h2
  · exact .inl h2
  · exact .inr ⟨h2.1.1, h2.1.2, h2.2⟩
theorem waits_none {listed : Array Bool} {i : Nat} (h : waits md ops listed z e i = true) (j : Nat) (hj : z ≤ j) (hje : j ≠ e) (hl : j < ops.size) : listed.getD j true = false := by
  unfold waits at h
  have := List.all_eq_true.1 h j (by simpa using hl)
  rw [decide_eq_false (by omega), show (j == e) = false by simpa using hje] at this
  simp only [Bool.false_or, Bool.and_eq_true] at this
  simpa using this.1
theorem take_z (i d : Nat) (v : Value) {oi : Oper} {fuel : Nat} {listed : Array Bool} {a : Go.Act} {w : World} (hi : ops[i]? = some oi) (hd : oi.dst = some d)
    (hs : Region.noSelect ops = true) (hf : Region.free md ops listed i = true) (hr : (Region.ready md ops listed).contains i = true) (hz : waits md ops listed z e i = true)
    (hQ : ∀ c a w, Q (.panic c) (a.put oi.dst v) w → Q (.panic c) a w) (hy : YieldsIf P ops S oi v a) (hS : S w)
    (h : anyZ P md ops Q S z e fuel (listed.setIfInBounds i true) (a.put (some d) v) w) : anyZ P md ops Q S z e (fuel + 1) listed a w :=
  anyZ_first hi (Region.noSelect_spec hs) hQ (waits_spec hz) fuel listed a w (Region.free_spec hi hf) (waits_none hz) (by simpa using hr) hy hS (by rw [hd]; exact h)
theorem take_e (d : Nat) (v : Value) {oi : Oper} {fuel : Nat} {listed : Array Bool} {a : Go.Act} {w : World} (hi : ops[e]? = some oi) (hd : oi.dst = some d)
    (hs : Region.noSelect ops = true) (hf : Region.free md ops listed e = true) (hr : (Region.ready md ops listed).contains e = true)
    (hQ : ∀ c a w, Q (.panic c) (a.put oi.dst v) w → Q (.panic c) a w) (hy : YieldsIf P ops (fun _ => True) oi v a)
    (h : anyZ P md ops Q S z e fuel (listed.setIfInBounds e true) (a.put (some d) v) w) : anyZ P md ops Q S z e (fuel + 1) listed a w :=
  anyZ_pure hi (Region.noSelect_spec hs) hQ fuel listed a w (Region.free_spec hi hf) (by simpa using hr) hy (by rw [hd]; exact h)
def AllZ (P : Program) (md : Region.Mode) (ops : Array Oper) (Q : Exit → Go.Act → World → Prop) (S : World → Prop) (z e fuel : Nat) (listed : Array Bool) (a : Go.Act) (w : World) (rs : List Nat) : Prop :=
  ∀ i ∈ rs, wpOp P ops Q i (fun a' w' => Held S z e i w w' ∧ anyZ P md ops Q S z e fuel (listed.setIfInBounds i true) a' w') a w
theorem AllZ.nil {fuel : Nat} {listed : Array Bool} {a : Go.Act} {w : World} : AllZ P md ops Q S z e fuel listed a w [] := fun _ h => by cases h
theorem AllZ.cons {fuel : Nat} {listed : Array Bool} {a : Go.Act} {w : World} {i : Nat} {o : Oper} {rs : List Nat} (ho : ops[i]? = some o)
    (h : ∀ K' : Go.Act → World → Prop, Shut (∀ a w, S w → (S w → anyZ P md ops Q S z e fuel (listed.setIfInBounds i true) a w) → K' a w) → if Region.wanted o (yielded ops a.tmps) = true then Oper.wp P o a w K' Q else K' (a.put o.dst undef) w)
    (hs : AllZ P md ops Q S z e fuel listed a w rs) : AllZ P md ops Q S z e fuel listed a w (i :: rs) := fun j hj => by
  rcases List.mem_cons.1 hj with rfl | hj
  · exact wpOp_step ho (fun K' hK => h K' (fun a w hS hW => hK a w ⟨⟨fun _ _ => hS, fun _ _ => hS⟩, hW hS⟩))
  · exact hs j hj
/-- one from z on: nothing is asked behind it. -/
theorem AllZ.last {fuel : Nat} {listed : Array Bool} {a : Go.Act} {w : World} {i : Nat} {o : Oper} (hz : (decide (z ≤ i) && !(i == e)) = true) (ho : ops[i]? = some o)
    (h : ∀ K' : Go.Act → World → Prop, Shut (∀ a w, anyZ P md ops Q S z e fuel (listed.setIfInBounds i true) a w → K' a w) → if Region.wanted o (yielded ops a.tmps) = true then Oper.wp P o a w K' Q else K' (a.put o.dst undef) w) :
    AllZ P md ops Q S z e fuel listed a w [i] := fun j hj => by
  simp only [Bool.and_eq_true, decide_eq_true_eq, Bool.not_eq_true', beq_eq_false_iff_ne] at hz
  rcases List.mem_cons.1 hj with rfl | hj
  · exact wpOp_step ho (fun K' hK => h K' (fun a w hW => hK a w ⟨⟨fun h => by omega, fun h => absurd h hz.2⟩, hW⟩))
  · cases hj
theorem anyZ_ready {rs : List Nat} {fuel : Nat} {listed : Array Bool} {a : Go.Act} {w : World} (hr : Region.ready md ops listed = rs) (hne : rs ≠ []) (h : AllZ P md ops Q S z e fuel listed a w rs) : anyZ P md ops Q S z e (fuel + 1) listed a w :=
  ⟨fun h0 => absurd (hr ▸ h0) hne, hr ▸ h⟩
theorem anyZ_done {listed : Array Bool} {a : Go.Act} {w : World} (hr : Region.ready md ops listed = []) (h : Q .normal a w) : ∀ fuel, anyZ P md ops Q S z e fuel listed a w
  | 0 => ⟨hr, h⟩
  | _ + 1 => ⟨fun _ => h, by rw [hr]; simp⟩
theorem region_z {id : Nat} {a : Go.Act} {w : World} (n : Nat) (S : World → Prop) (z e : Nat) (hn : ops.size = n) (hm : P.follows .mixedOrders = true) (hS : S w.drew)
    (h : S w.drew → anyZ P .any ops Q S z e n (Array.replicate n false) a w.drew) : (Code.region id ops true).wp P Q a w := by
  subst hn
  exact wp_region_any hm (anyZ_any _ _ _ _ (h hS))
end
end Go.Proofs.YtfdfiiocccafkaaGreatDoor.En
namespace Go.Proofs.YtfdfiiocccafkaaGreatDoor.En
open Go.RowKit
open Go.Maps (Keyed int_keyed keyOf_int_mk)
theorem MapV.lookF {W : World} {b n sz : Nat} {z : Value} {f : Int → Option Value} (h : Tx.MapV W b n sz z f) {t e : TypeId} (ht : Tryz.prog.underlying t = some (.map 3 e)) (hz : (zeroValue e).run Tryz.prog W = .ok z W) {x : Int} (hx : St.i64p x) :
    (Instr.lookup t (.map (some b)) (.int .i64 x) false).run Tryz.prog W = .ok ((f x).getD z) W := by
  obtain ⟨D, ho, _, _, hh, ha⟩ := h
  obtain ⟨v, ps, hrun, hv⟩ := ho.lookup (int_keyed Tryz.underlying3) ht hz (zd := .held z) (zp := []) rfl (keyOf_int_mk Tryz.underlying3 (Tx.wf_i64 hx))
  rw [ha x] at hv
  simp only [Tx.heldR, Option.some.injEq, Prod.mk.injEq, DataW.held.injEq] at hv
  rw [hrun, hv.1]
theorem MapV.del {W : World} {b n sz : Nat} {z : Value} {f : Int → Option Value} (h : Tx.MapV W b n sz z f) {t e : TypeId} (ht : Tryz.prog.underlying t = some (.map 3 e)) (ty : TypeId) {x : Int} (hx : St.i64p x) :
    ∃ W' sz', (Builtin.delete_ #[t, 3] ty #[.map (some b), .int .i64 x]).run Tryz.prog W = .ok (.tuple #[]) W' ∧ Tx.MapV W' b n sz' z (fun y => if y = x then none else f y) ∧ W.grownBy W' (some b) := by
  obtain ⟨D, ho, ht', hs, hh, ha⟩ := h
  obtain ⟨W', hrun, r1, r2⟩ := ho.drop (int_keyed Tryz.underlying3) ht (keyOf_int_mk Tryz.underlying3 (Tx.wf_i64 hx)) ty
  have ht2 := r1.tidy (int_keyed Tryz.underlying3)
  refine ⟨W', Maps.size (D.del (.int .i64 x)), hrun, ⟨_, r1, ht2, rfl, ?_, ?_⟩, r2.grown⟩
  · intro y
    show _ = (if y = x then none else f y).isSome
    by_cases e : y = x
    · subst e
      rw [if_pos rfl, Maps.has_del_same]; rfl
    · rw [if_neg e, Maps.has_del_other (by simpa using e), hh y]
  · intro y
    show _ = DataW.held ((if y = x then none else f y).getD z)
    by_cases e : y = x
    · subst e
      rw [if_pos rfl, Maps.atKey_del_same]; rfl
    · rw [if_neg e, Maps.atKey_del_other (by simpa using e), ha y]
section
variable {F : Nat → Prop} {w : World} {b N : Nat} {g : Eng} {sA : Option Addr} {sc mb : Nat} {lv : Value} {T : Nat → Value} {X : List Xe}
theorem EngIs.seat (h : EngIs F w b N g sA sc mb lv T X) (hs : Po.Sound g.p) {i : Nat} (hi : Po.tk g.p i) (hid : St.i64p (g.p.ids i)) {A : Option Addr} {cc : Nat} (hT : T i = .slice A (g.t i).length cc) :
    (Instr.lookup 94 (.map (some mb)) (.int .i64 (g.p.ids i)) false).run Tryz.prog w = .ok (.agg #[.slice A (g.t i).length cc, .int .i64 (i : Nat), .bool (g.c i)]) w := by
  obtain ⟨sz, hm⟩ := h.mp
  have := MapV.lookF hm Tryz.underlying94 (zero_seat w) hid
  rw [show seatF T g (g.p.ids i) = some (.agg #[.slice A (g.t i).length cc, .int .i64 (i : Nat), .bool (g.c i)]) from by
    unfold seatF
    rw [slotAt_of hs hi]
    show some (seatV T g i) = _
    unfold seatV
    rw [hT]] at this
  exact this
end
theorem _root_.Go.Proofs.YtfdfiiocccafkaaGreatDoor.Tx.Blk.below {W W' : World} {b : Nat} {cs : Array Value} {t : TypeId} (h : Tx.Blk W b cs t) (hb : Below W.heap.size W W') : Tx.Blk W' b cs t := (hb.block _ h.lt).trans h
theorem SlF.later {W : World} {A : Option Addr} {c : Nat} {L : List Tx.Sp} (h : Tx.SlAt W A c L) (o : Obj) : SlF (fun k => k = W.heap.size) (W.alloc o) A c L :=
  ⟨h.alloc o, fun hl ad e hx => by
    have := h.at_.low ad e hl
    omega⟩
theorem SlF.below {F : Nat → Prop} {W W' : World} {A : Option Addr} {c : Nat} {L : List Tx.Sp} (h : SlF F W A c L) (hb : Below W.heap.size W W') : SlF F W' A c L := h.kp (.of_below hb)
/-- the engine, a block of the call's own, and nothing else written since w. -/
structure HSt (F : Nat → Prop) (w : World) (b N : Nat) (g : Eng) (sA : Option Addr) (sc mb : Nat) (lv : Value) (T : Nat → Value) (X : List Xe) (x : Nat) (cs : Array Value) (t : TypeId) (W : World) : Prop where
  en : EngIs F W b N g sA sc mb lv T X
  bx : Tx.Blk W x cs t
  bel : Below w.heap.size w W
theorem HSt.below {F : Nat → Prop} {w : World} {b N : Nat} {g : Eng} {sA : Option Addr} {sc mb : Nat} {lv : Value} {T : Nat → Value} {X : List Xe} {x : Nat} {cs : Array Value} {t : TypeId} {W W' : World}
    (h : HSt F w b N g sA sc mb lv T X x cs t W) (hb : Below W.heap.size W W') : HSt F w b N g sA sc mb lv T X x cs t W' := ⟨h.en.below hb, (hb.block _ h.bx.lt).trans h.bx, h.bel.trans (hb.mono h.bel.size)⟩
theorem below_drew (W : World) : Below W.heap.size W W.drew := (Below.refl _ _).drew
theorem yields_blk {ops : Array Oper} {S : World → Prop} {op : Oper} {a : Go.Act} (hw : Region.wanted op (yielded ops a.tmps) = true) (ty : TypeId) (x : Operand) (ho : op.op = .load ty x)
    (k : Nat) (hx : a.eval x = .pointer (some ⟨k, 0, none⟩)) (t : TypeId) (cs : Array Value) (fs : _) (hS : ∀ w, S w → Tx.Blk w k cs t)
    (hu : Tryz.prog.underlying ty = some (.struct fs)) (hi : (Tryz.prog.info? ty).map (·.size) = some cs.size) : YieldsIf Tryz.prog ops S op (.agg cs) a :=
  .inl ⟨hw, fun w hw' => by
    unfold execOp
    simp only [ho, hx, Instr.loadAt, Instr.sureAddr, Sem.run_bind, Sem.run_pure, Result.andThen_ok, run_loadVar_row w k t ty cs (0, 0) _ (hS w hw') hu rfl hi]⟩
end Go.Proofs.YtfdfiiocccafkaaGreatDoor.En
namespace Go.Proofs.YtfdfiiocccafkaaGreatDoor.En
open Go.RowKit
attribute [local go_sem ↓] Go.wp_at_zero Go.wp_at_succ
theorem ent_info : (Tryz.prog.info? 79).map (fun i => (i.zero, i.size, i.bytes)) = some (some (.agg #[.int .i64 0, .bool false, .bool false, .slice none 0 0, .slice none 0 0]), 5, 64) := by kernel_rfl
theorem ent_size : (Tryz.prog.info? 79).map (·.size) = some 5 := by kernel_rfl
/-- five cells stored one by one. -/
def put5 (w : World) (b : Nat) (u v x y z : Value) : World := ((((w.setCell ⟨b, 0, none⟩ u).setCell ⟨b, 1, none⟩ v).setCell ⟨b, 2, none⟩ x).setCell ⟨b, 3, none⟩ y).setCell ⟨b, 4, none⟩ z
theorem blk_put5 {w : World} {b : Nat} {c0 c1 c2 c3 c4 : Value} {t : TypeId} (h : Tx.Blk w b #[c0, c1, c2, c3, c4] t) (u v x y z : Value) : Tx.Blk (put5 w b u v x y z) b #[u, v, x, y, z] t :=
  ((((h.set 0 u).set 1 v).set 2 x).set 3 y).set 4 z
theorem below_put5 {a w : World} {B b : Nat} (h : Below B a w) (hb : B ≤ b) (u v x y z : Value) : Below B a (put5 w b u v x y z) := ((((h.setCell (p := ⟨b, 0, none⟩) hb _).setCell (p := ⟨b, 1, none⟩) hb _).setCell (p := ⟨b, 2, none⟩) hb _).setCell (p := ⟨b, 3, none⟩) hb _).setCell (p := ⟨b, 4, none⟩) hb _
theorem results_blk {fn : Func} {p : Tmp} {ty : TypeId} (h : fn.results = #[.cell p ty]) (tmps : Array Value) (w : World) (b : Nat) (t : TypeId) (cs : Array Value) (fs : _) (hp : tmps.getD p undef = .pointer (some ⟨b, 0, none⟩)) (hv : Tx.Blk w b cs t)
    (hu : Tryz.prog.underlying ty = some (.struct fs)) (hi : (Tryz.prog.info? ty).map (·.size) = some cs.size) : (results fn tmps).run Tryz.prog w = .ok (.agg cs) w := by
  have hp' : tmps[p]?.getD undef = .pointer (some ⟨b, 0, none⟩) := by simpa using hp
  simp only [results, h]
  simp [hp', asAddr, run_loadVar_row w b t ty _ (0, 0) _ hv hu rfl hi]
/-- an entry, its slices made behind a point. -/
def EntPost (e0 : Ent) (w : World) (e : Ending) (w' : World) : Prop := ∃ A c B d, e = .returned (.agg #[.int .i64 e0.id, .bool e0.com, .bool e0.ovr, .slice A e0.rd.length c, .slice B e0.wr.length d]) ∧ Tx.SlAt w' A c e0.rd ∧ Tx.Fr w.heap.size A ∧ Tx.SlAt w' B d e0.wr ∧ Tx.Fr w.heap.size B ∧ Below w.heap.size w w'
def wrOf (c : Bool) (L : List Tx.Sp) : List Tx.Sp := if c = true then Tx.writesL L else []
theorem done_not {p : Pl} (hs : Po.Sound p) {i : Nat} (hi : Po.tk p i) : (!p.live.testBit i) = p.done.testBit i := by
  cases hl : p.live.testBit i with
  | true =>
    cases hd : p.done.testBit i with
    | true => exact (hs.apart i hl hd).elim
    | false => rfl
  | false =>
    rcases hi with h | h
    · rw [hl] at h; cases h
    · rw [h]; rfl
structure VSt (w : World) (x : Nat) (cs : Array Value) (t : TypeId) (W : World) : Prop where
  bx : Tx.Blk W x cs t
  rs : Tx.Blk W w.heap.size #[.int .i64 0, .bool false, .bool false, .slice none 0 0, .slice none 0 0] 79
  bel : Below w.heap.size w W
theorem VSt.below {w : World} {x : Nat} {cs : Array Value} {t : TypeId} {W W' : World} (h : VSt w x cs t W) (hb : Below W.heap.size W W') : VSt w x cs t W' := ⟨h.bx.below hb, h.rs.below hb, h.bel.trans (hb.mono h.bel.size)⟩
theorem VSt.put {w : World} {x y : Nat} {cs : Array Value} {t : TypeId} {W : World} (h : VSt w x cs t W) (hx : y ≠ x) (hy : w.heap.size < y) (a b c d e : Value) : VSt w x cs t (put5 W y a b c d e) :=
  ⟨((((h.bx.other hx.symm 0 a).other hx.symm 1 b).other hx.symm 2 c).other hx.symm 3 d).other hx.symm 4 e, ((((h.rs.other (by omega) 0 a).other (by omega) 1 b).other (by omega) 2 c).other (by omega) 3 d).other (by omega) 4 e, below_put5 h.bel (by omega) _ _ _ _ _⟩
theorem kp_put5 {F : Nat → Prop} {w : World} {y : Nat} (hF : F y) (a b c d e : Value) : Kp F w (put5 w y a b c d e) :=
  (((((Kp.refl F w).setCell (p := ⟨y, 0, none⟩) (.inl hF) a).setCell (p := ⟨y, 1, none⟩) (.inl hF) b).setCell (p := ⟨y, 2, none⟩) (.inl hF) c).setCell (p := ⟨y, 3, none⟩) (.inl hF) d).setCell (p := ⟨y, 4, none⟩) (.inl hF) e
theorem SlF.put5 {W : World} {y : Nat} {R : Option Addr} {c : Nat} {L : List Tx.Sp} (h : SlF (fun k => k = y) W R c L) (u v x z t : Value) : SlF (fun k => k = y) (put5 W y u v x z t) R c L := h.kp (kp_put5 (F := fun k => k = y) rfl u v x z t)
theorem SlF.out {F : Nat → Prop} {W : World} {R : Option Addr} {c : Nat} {L : List Tx.Sp} {x o : Nat} {v : Value} (h : SlF F W R c L) (hF : F x) : SlF F (W.setCell ⟨x, o, none⟩ v) R c L := h.kp ((Kp.refl F W).setCell (p := ⟨x, o, none⟩) (.inl hF) v)
set_option maxHeartbeats 4000000 in
set_option maxRecDepth 100000 in
theorem entry_raw {w : World} {b mb N : Nat} {p : Pl} {S lv : Value} {n : Int} {f : Int → Option Value} (hr : RawAt w b p S (.map (some mb)) lv n) (hm : ∃ sz, Tx.MapV w mb N sz zeroSeat f) {id : Int} (hid : St.i64p id) {A : Option Addr} {L : List Tx.Sp} {cc i : Nat} {c : Bool}
    (hf : f id = some (.agg #[.slice A L.length cc, .int .i64 (i : Nat), .bool c])) (hsl : Tx.SlAt w A cc L) (hl : L.length ≤ 200) (hp : p.live < 18446744073709551616) (hi : i < 64) :
    Calls Tryz.prog 43 #[.pointer (some ⟨b, 0, none⟩), .int .i64 id] w (EntPost ⟨id, c, !p.live.testBit i, Tx.readsL L, wrOf c L⟩ w) := by
  have HB0 := Lib.hid (Tx.below_new w (.cells #[.int .i64 0, .bool false, .bool false, .slice none 0 0, .slice none 0 0] 79))
  have HR0 := Lib.hid (Tx.Blk.new w #[.int .i64 0, .bool false, .bool false, .slice none 0 0, .slice none 0 0] 79)
  have H := Lib.hid (hr.below HB0.out)
  have HE := Lib.hid hr
  have HSL := Lib.hid hsl
  have HTL := Lib.hid hl
  have c101 := H.out.map_
  have hlk : (Instr.lookup 94 (.map (some mb)) (.int .i64 id) false).run Tryz.prog (w.alloc (.cells #[.int .i64 0, .bool false, .bool false, .slice none 0 0, .slice none 0 0] 79)) = .ok (.agg #[.slice A L.length cc, .int .i64 (i : Nat), .bool c]) (w.alloc (.cells #[.int .i64 0, .bool false, .bool false, .slice none 0 0, .slice none 0 0] 79)) := by
    obtain ⟨sz, hm⟩ := hm
    have := MapV.lookF (hm.keep HB0.out hm.lt) Tryz.underlying94 (zero_seat _) hid
    rw [hf] at this
    exact this
  have HP0 := Lib.hid hp
  clear hr hsl hl hm hf hp
  go_enter Tryz.func43, Tryz.ntmps43
  go_wp2
  have HV := Lib.hid (show VSt w (w.heap.size + 1) #[.slice A L.length cc, .int .i64 (i : Nat), .bool c] 115 ((w.alloc (.cells #[.int .i64 0, .bool false, .bool false, .slice none 0 0, .slice none 0 0] 79)).alloc (.cells #[.slice A L.length cc, .int .i64 (i : Nat), .bool c] 115)) from
    ⟨Tx.Blk.new' (Tx.size_new _ _) _ _, HR0.out.alloc _, HB0.out.alloc HB0.out.size _⟩)
  generalize (w.alloc (.cells #[.int .i64 0, .bool false, .bool false, .slice none 0 0, .slice none 0 0] 79)).alloc (.cells #[.slice A L.length cc, .int .i64 (i : Nat), .bool c] 115) = w2 at *
  clear c101 hlk HB0 HR0 H
  go_cut [6] from 13 to 22 (fun u wx => ∃ y R d, u = .pointer (some ⟨y, 0, none⟩) ∧ VSt w (w.heap.size + 1) #[.slice A L.length cc, .int .i64 (i : Nat), .bool c] 115 wx ∧ Tx.Blk wx y #[.int .i64 id, .bool c, .bool (!p.live.testBit i), .slice R (Tx.readsL L).length d, .slice none 0 0] 79 ∧ SlF (fun k => k = y) wx R d (Tx.readsL L) ∧ Tx.Fr (w.heap.size + 1) R ∧ w.heap.size + 1 < y)
  case first =>
    refine wp_region_noPanic ?_
    refine region_z 12 (VSt w (w.heap.size + 1) #[.slice A L.length cc, .int .i64 (i : Nat), .bool c] 115) 11 1000 rfl (by kernel_rfl) (HV.out.below (below_drew _)) (fun hHeld => ?_)
    refine take_z 0 13 (.int .i64 id) rfl rfl (by kernel_rfl) (by kernel_rfl) (by kernel_rfl) (by kernel_rfl) (fun _ _ _ h => h) (Or.inl ⟨by rfl, by intro W hW; clear hW; go_simp⟩) hHeld ?_
    simp only [put_laws]
    refine take_z 1 14 (.pointer (some ⟨w.heap.size + 1, 2, none⟩)) rfl rfl (by kernel_rfl) (by kernel_rfl) (by kernel_rfl) (by kernel_rfl) (fun _ _ _ h => h) (Or.inl ⟨by rfl, by intro W hW; clear hW; go_simp⟩) hHeld ?_
    simp only [put_laws]
    refine take_z 2 15 (.bool c) rfl rfl (by kernel_rfl) (by kernel_rfl) (by kernel_rfl) (by kernel_rfl) (fun _ _ _ h => h) (Or.inl ⟨by rfl, by intro W hW; have hc := hW.bx.cell 2; clear hW; go_simp⟩) hHeld ?_
    simp only [put_laws]
    refine take_z 3 16 (.pointer (some ⟨b, 0, none⟩)) rfl rfl (by kernel_rfl) (by kernel_rfl) (by kernel_rfl) (by kernel_rfl) (fun _ _ _ h => h) (Or.inl ⟨by rfl, by intro W hW; clear hW; go_simp⟩) hHeld ?_
    simp only [put_laws]
    refine take_z 4 17 (.agg #[.slice A L.length cc, .int .i64 (i : Nat), .bool c]) rfl rfl (by kernel_rfl) (by kernel_rfl) (by kernel_rfl) (by kernel_rfl) (fun _ _ _ h => h) (yields_blk (by rfl) 115 (.tmp 5) rfl (w.heap.size + 1) rfl 115 #[.slice A L.length cc, .int .i64 (i : Nat), .bool c] _ (fun W h => h.bx) Tryz.underlying115 seat_size) hHeld ?_
    simp only [put_laws]
    refine take_z 6 19 (.pointer (some ⟨w.heap.size + 1, 0, none⟩)) rfl rfl (by kernel_rfl) (by kernel_rfl) (by kernel_rfl) (by kernel_rfl) (fun _ _ _ h => h) (Or.inl ⟨by rfl, by intro W hW; clear hW; go_simp⟩) hHeld ?_
    simp only [put_laws]
    refine take_z 7 20 (.slice A L.length cc) rfl rfl (by kernel_rfl) (by kernel_rfl) (by kernel_rfl) (by kernel_rfl) (fun _ _ _ h => h) (Or.inl ⟨by rfl, by intro W hW; have hc := hW.bx.cell 0; clear hW; go_simp⟩) hHeld ?_
    simp only [put_laws]
    refine anyZ_ready (rs := [5, 10]) (by kernel_rfl) (by simp) ?_
    refine AllZ.cons rfl (fun K hK => ?_) (AllZ.cons rfl (fun K hK => ?_) AllZ.nil)
    · go_simp
      refine (over_any b i p.live _ _ _ (HE.out.below hHeld.bel).live_ (HE.out.below hHeld.bel).lt HP0.out hi).mono ?_
      rintro e wo ⟨rfl, hb⟩
      try go_simp
      have hPrev := hHeld
      have hHeld := hHeld.below hb
      clear hPrev
      refine hK.out _ _ hHeld (fun hHeld => ?_)
      clear hK K
      refine anyZ_ready (rs := [8, 10]) (by kernel_rfl) (by simp) ?_
      refine AllZ.cons rfl (fun K hK => ?_) (AllZ.cons rfl (fun K hK => ?_) AllZ.nil)
      · go_simp
        refine (Tx.reads_any A cc L _ (HSL.out.below hHeld.bel).at_ (by have := HTL.out; omega)).mono ?_
        rintro e wd ⟨R, d, rfl, hv, hb, hf⟩
        try go_simp
        have hPrev := hHeld
        have hHeld := hHeld.below hb
        have hR := hv
        have hFr := hf.mono (Nat.le_of_lt hPrev.bx.lt)
        clear hv hf
        clear hPrev
        refine hK.out _ _ hHeld (fun hHeld => ?_)
        clear hK K
        refine take_z 9 22 (.agg #[.int .i64 id, .bool c, .bool (!p.live.testBit i), .slice R (Tx.readsL L).length d, .slice none 0 0]) rfl rfl (by kernel_rfl) (by kernel_rfl) (by kernel_rfl) (by kernel_rfl) (fun _ _ _ h => h) (Or.inl ⟨by rfl, by intro W hW; clear hW; go_simp⟩) hHeld ?_
        simp only [put_laws]
        refine anyZ_ready (rs := [10]) (by kernel_rfl) (by simp) ?_
        refine AllZ.cons rfl (fun K hK => ?_) AllZ.nil
        go_simp
        have hN : Tx.Blk ((wd.alloc (.cells #[.int .i64 0, .bool false, .bool false, .slice none 0 0, .slice none 0 0] 79))) (wd.heap.size) #[.int .i64 0, .bool false, .bool false, .slice none 0 0, .slice none 0 0] 79 := Tx.Blk.new (wd) #[.int .i64 0, .bool false, .bool false, .slice none 0 0, .slice none 0 0] 79
        have hPrev := hHeld
        have hHeld := hHeld.below (show Below _ _ ((wd.alloc (.cells #[.int .i64 0, .bool false, .bool false, .slice none 0 0, .slice none 0 0] 79))) from Tx.below_new (wd) (.cells #[.int .i64 0, .bool false, .bool false, .slice none 0 0, .slice none 0 0] 79))
        have hy : w.heap.size + 1 < wd.heap.size := hPrev.bx.lt
        have hR := SlF.later hR (.cells #[.int .i64 0, .bool false, .bool false, .slice none 0 0, .slice none 0 0] 79)
        generalize (wd.alloc (.cells #[.int .i64 0, .bool false, .bool false, .slice none 0 0, .slice none 0 0] 79)) = wa at *
        clear hPrev
        refine hK.out _ _ hHeld (fun hHeld => ?_)
        clear hK K
        refine anyZ_ready (rs := [11]) (by kernel_rfl) (by simp) ?_
        refine AllZ.last rfl rfl (fun K hK => ?_)
        have n0 := hN.cell 0
        have n1 := hN.cell 1
        have n2 := hN.cell 2
        have n3 := hN.cell 3
        have n4 := hN.cell 4
        have nf := hN.free
        go_simp
        clear n0 n1 n2 n3 n4 nf
        refine hK.out _ _ ?_
        clear hK K
        refine anyZ_done (by kernel_rfl) ?_ _
        refine NoPanic.normal ?_
        go_wp2_with fail
        go_meet
        exact ⟨_, _, _, rfl, hHeld.put (by omega) (by omega) _ _ _ _ _, blk_put5 hN _ _ _ _ _, hR.put5 _ _ _ _ _, hFr, hy⟩
      · go_simp
        have hN : Tx.Blk ((wo.alloc (.cells #[.int .i64 0, .bool false, .bool false, .slice none 0 0, .slice none 0 0] 79))) (wo.heap.size) #[.int .i64 0, .bool false, .bool false, .slice none 0 0, .slice none 0 0] 79 := Tx.Blk.new (wo) #[.int .i64 0, .bool false, .bool false, .slice none 0 0, .slice none 0 0] 79
        have hPrev := hHeld
        have hHeld := hHeld.below (show Below _ _ ((wo.alloc (.cells #[.int .i64 0, .bool false, .bool false, .slice none 0 0, .slice none 0 0] 79))) from Tx.below_new (wo) (.cells #[.int .i64 0, .bool false, .bool false, .slice none 0 0, .slice none 0 0] 79))
        have hy : w.heap.size + 1 < wo.heap.size := hPrev.bx.lt
        generalize (wo.alloc (.cells #[.int .i64 0, .bool false, .bool false, .slice none 0 0, .slice none 0 0] 79)) = wa at *
        clear hPrev
        refine hK.out _ _ hHeld (fun hHeld => ?_)
        clear hK K
        refine anyZ_ready (rs := [8]) (by kernel_rfl) (by simp) ?_
        refine AllZ.cons rfl (fun K hK => ?_) AllZ.nil
        go_simp
        refine (Tx.reads_any A cc L _ (HSL.out.below hHeld.bel).at_ (by have := HTL.out; omega)).mono ?_
        rintro e wd ⟨R, d, rfl, hv, hb, hf⟩
        try go_simp
        have hPrev := hHeld
        have hHeld := hHeld.below hb
        have hR := SlF.fresh (F := fun k => k = wo.heap.size) hv hf (fun k e => by subst e; exact hN.lt)
        have hFr := hf.mono (Nat.le_of_lt hPrev.bx.lt)
        clear hv hf
        have hN := hN.below hb
        clear hPrev
        refine hK.out _ _ hHeld (fun hHeld => ?_)
        clear hK K
        refine take_z 9 22 (.agg #[.int .i64 id, .bool c, .bool (!p.live.testBit i), .slice R (Tx.readsL L).length d, .slice none 0 0]) rfl rfl (by kernel_rfl) (by kernel_rfl) (by kernel_rfl) (by kernel_rfl) (fun _ _ _ h => h) (Or.inl ⟨by rfl, by intro W hW; clear hW; go_simp⟩) hHeld ?_
        simp only [put_laws]
        refine anyZ_ready (rs := [11]) (by kernel_rfl) (by simp) ?_
        refine AllZ.last rfl rfl (fun K hK => ?_)
        have n0 := hN.cell 0
        have n1 := hN.cell 1
        have n2 := hN.cell 2
        have n3 := hN.cell 3
        have n4 := hN.cell 4
        have nf := hN.free
        go_simp
        clear n0 n1 n2 n3 n4 nf
        refine hK.out _ _ ?_
        clear hK K
        refine anyZ_done (by kernel_rfl) ?_ _
        refine NoPanic.normal ?_
        go_wp2_with fail
        go_meet
        exact ⟨_, _, _, rfl, hHeld.put (by omega) (by omega) _ _ _ _ _, blk_put5 hN _ _ _ _ _, hR.put5 _ _ _ _ _, hFr, hy⟩
    · go_simp
      have hN : Tx.Blk ((w2.alloc (.cells #[.int .i64 0, .bool false, .bool false, .slice none 0 0, .slice none 0 0] 79)).drew) (w2.heap.size) #[.int .i64 0, .bool false, .bool false, .slice none 0 0, .slice none 0 0] 79 := Tx.Blk.new (w2.drew) #[.int .i64 0, .bool false, .bool false, .slice none 0 0, .slice none 0 0] 79
      have hPrev := hHeld
      have hHeld := hHeld.below (show Below _ _ ((w2.alloc (.cells #[.int .i64 0, .bool false, .bool false, .slice none 0 0, .slice none 0 0] 79)).drew) from Tx.below_new (w2.drew) (.cells #[.int .i64 0, .bool false, .bool false, .slice none 0 0, .slice none 0 0] 79))
      have hy : w.heap.size + 1 < w2.heap.size := hPrev.bx.lt
      generalize (w2.alloc (.cells #[.int .i64 0, .bool false, .bool false, .slice none 0 0, .slice none 0 0] 79)).drew = wa at *
      clear hPrev
      refine hK.out _ _ hHeld (fun hHeld => ?_)
      clear hK K
      refine anyZ_ready (rs := [5]) (by kernel_rfl) (by simp) ?_
      refine AllZ.cons rfl (fun K hK => ?_) AllZ.nil
      go_simp
      refine (over_any b i p.live _ _ _ (HE.out.below hHeld.bel).live_ (HE.out.below hHeld.bel).lt HP0.out hi).mono ?_
      rintro e wo ⟨rfl, hb⟩
      try go_simp
      have hPrev := hHeld
      have hHeld := hHeld.below hb
      have hN := hN.below hb
      clear hPrev
      refine hK.out _ _ hHeld (fun hHeld => ?_)
      clear hK K
      refine anyZ_ready (rs := [8]) (by kernel_rfl) (by simp) ?_
      refine AllZ.cons rfl (fun K hK => ?_) AllZ.nil
      go_simp
      refine (Tx.reads_any A cc L _ (HSL.out.below hHeld.bel).at_ (by have := HTL.out; omega)).mono ?_
      rintro e wd ⟨R, d, rfl, hv, hb, hf⟩
      try go_simp
      have hPrev := hHeld
      have hHeld := hHeld.below hb
      have hR := SlF.fresh (F := fun k => k = w2.heap.size) hv hf (fun k e => by subst e; exact hN.lt)
      have hFr := hf.mono (Nat.le_of_lt hPrev.bx.lt)
      clear hv hf
      have hN := hN.below hb
      clear hPrev
      refine hK.out _ _ hHeld (fun hHeld => ?_)
      clear hK K
      refine take_z 9 22 (.agg #[.int .i64 id, .bool c, .bool (!p.live.testBit i), .slice R (Tx.readsL L).length d, .slice none 0 0]) rfl rfl (by kernel_rfl) (by kernel_rfl) (by kernel_rfl) (by kernel_rfl) (fun _ _ _ h => h) (Or.inl ⟨by rfl, by intro W hW; clear hW; go_simp⟩) hHeld ?_
      simp only [put_laws]
      refine anyZ_ready (rs := [11]) (by kernel_rfl) (by simp) ?_
      refine AllZ.last rfl rfl (fun K hK => ?_)
      have n0 := hN.cell 0
      have n1 := hN.cell 1
      have n2 := hN.cell 2
      have n3 := hN.cell 3
      have n4 := hN.cell 4
      have nf := hN.free
      go_simp
      clear n0 n1 n2 n3 n4 nf
      refine hK.out _ _ ?_
      clear hK K
      refine anyZ_done (by kernel_rfl) ?_ _
      refine NoPanic.normal ?_
      go_wp2_with fail
      go_meet
      exact ⟨_, _, _, rfl, hHeld.put (by omega) (by omega) _ _ _ _ _, blk_put5 hN _ _ _ _ _, hR.put5 _ _ _ _ _, hFr, hy⟩
  case rest =>
    obtain ⟨y, R, d, rfl, hV, hY, hR, hFr, hy⟩ := hcut
    have HV2 := Lib.hid hV
    have HY := Lib.hid hY
    have HR := Lib.hid hR
    have HFr := Lib.hid hFr
    have HYX := Lib.hid hy
    clear hV hY hR hFr hy HV
    have s0 := HV2.out.bx.cell 0
    have s2 := HV2.out.bx.cell 2
    have r0 := HV2.out.rs.cell 0
    have r1 := HV2.out.rs.cell 1
    have r2 := HV2.out.rs.cell 2
    have r3 := HV2.out.rs.cell 3
    have r4 := HV2.out.rs.cell 4
    have rf := HV2.out.rs.free
    have y0 := HY.out.cell 0
    have y1 := HY.out.cell 1
    have y2 := HY.out.cell 2
    have y3 := HY.out.cell 3
    have y4 := HY.out.cell 4
    have yf := HY.out.free
    simp only [List.getElem?_toArray, List.getElem?_cons_zero, List.getElem?_cons_succ] at s0 s2 r0 r1 r2 r3 r4 y0 y1 y2 y3 y4
    cases c with
    | false =>
      have HP := Lib.hid (blk_put5 HV2.out.rs (.int .i64 id) (.bool false) (.bool (!p.live.testBit i)) (.slice R (Tx.readsL L).length d) (.slice none 0 0))
      have HPB := Lib.hid (below_put5 HV2.out.bel (Nat.le_refl w.heap.size) (.int .i64 id) (.bool false) (.bool (!p.live.testBit i)) (.slice R (Tx.readsL L).length d) (.slice none 0 0))
      have HR2 := Lib.hid (SlF.put5 (y := w.heap.size) ⟨HR.out.sl, fun _ ad e hx => by have := HFr.out ad e; omega⟩ (.int .i64 id) (.bool false) (.bool (!p.live.testBit i)) (.slice R (Tx.readsL L).length d) (.slice none 0 0))
      unfold put5 at HP HPB HR2
      go_wp2
      refine bodyPost_ret (results_blk rfl _ _ w.heap.size 79 _ _ rfl HP.out Tryz.underlying79 ent_size) rfl ?_
      exact ⟨R, d, none, 0, rfl, HR2.out.sl, HFr.out.mono (by omega), (SlF.nil (fun _ => False) _).sl, (fun ad e => by cases e), HPB.out⟩
    | true =>
      have HYc := Lib.hid HY.out
      clear HY r0 r1 r2 r3 r4 rf y0 y1 y2 y3 y4 yf
      go_wp2_with fail
      refine (Tx.writes_any A cc L _ (HSL.out.below HV2.out.bel).at_ (by have := HTL.out; omega)).mono ?_
      rintro e wd ⟨R2, d2, rfl, hv, hb, hf⟩
      have HV3 := Lib.hid (HV2.out.below hb)
      have HY3 := Lib.hid (HYc.out.below hb)
      have HR3 := Lib.hid (show SlF (fun k => k = y ∨ k = w.heap.size) wd R d (Tx.readsL L) from ⟨(HR.out.below hb).sl, fun hl ad e hx => by
        rcases hx with hx | hx
        · exact HR.out.off hl ad e hx
        · have := HFr.out ad e; omega⟩)
      have HW3 := Lib.hid (SlF.fresh (F := fun k => k = y ∨ k = w.heap.size) hv hf (fun k e => by
        have h1 := HYc.out.lt
        have h2 := HV2.out.rs.lt
        rcases e with rfl | rfl
        · exact h1
        · exact h2))
      have HF2 := Lib.hid (hf.mono HV2.out.bel.size)
      have x4 := HY3.out.cell 4
      have xf := HY3.out.free
      simp only [List.getElem?_toArray, List.getElem?_cons_zero, List.getElem?_cons_succ] at x4
      have HY4 := Lib.hid (HY3.out.set 4 (.slice R2 (Tx.writesL L).length d2))
      have HS4 := Lib.hid (HV3.out.rs.other (b' := y) (by have := HYX.out; omega) 4 (.slice R2 (Tx.writesL L).length d2))
      have HB4 := Lib.hid (HV3.out.bel.setCell (p := ⟨y, 4, none⟩) (show w.heap.size ≤ y by have := HYX.out; omega) (.slice R2 (Tx.writesL L).length d2))
      have HR4 := Lib.hid (SlF.out (o := 4) (v := .slice R2 (Tx.writesL L).length d2) HR3.out (.inl rfl))
      have HW4 := Lib.hid (SlF.out (o := 4) (v := .slice R2 (Tx.writesL L).length d2) HW3.out (.inl rfl))
      clear hv hb hf s0 s2
      have y0 := HY4.out.cell 0
      have y1 := HY4.out.cell 1
      have y2 := HY4.out.cell 2
      have y3 := HY4.out.cell 3
      have y4 := HY4.out.cell 4
      have r0 := HS4.out.cell 0
      have r1 := HS4.out.cell 1
      have r2 := HS4.out.cell 2
      have r3 := HS4.out.cell 3
      have r4 := HS4.out.cell 4
      have rf := HS4.out.free
      have HP := Lib.hid (blk_put5 HS4.out (.int .i64 id) (.bool true) (.bool (!p.live.testBit i)) (.slice R (Tx.readsL L).length d) (.slice R2 (Tx.writesL L).length d2))
      have HPB := Lib.hid (below_put5 HB4.out (Nat.le_refl w.heap.size) (.int .i64 id) (.bool true) (.bool (!p.live.testBit i)) (.slice R (Tx.readsL L).length d) (.slice R2 (Tx.writesL L).length d2))
      have HR5 := Lib.hid (HR4.out.kp (kp_put5 (y := w.heap.size) (.inr rfl) (.int .i64 id) (.bool true) (.bool (!p.live.testBit i)) (.slice R (Tx.readsL L).length d) (.slice R2 (Tx.writesL L).length d2)))
      have HW5 := Lib.hid (HW4.out.kp (kp_put5 (y := w.heap.size) (.inr rfl) (.int .i64 id) (.bool true) (.bool (!p.live.testBit i)) (.slice R (Tx.readsL L).length d) (.slice R2 (Tx.writesL L).length d2)))
      unfold put5 at HP HPB HR5 HW5
      go_wp2
      refine bodyPost_ret (results_blk rfl _ _ w.heap.size 79 _ _ rfl HP.out Tryz.underlying79 ent_size) rfl ?_
      exact ⟨R, d, R2, d2, rfl, HR5.out.sl, HFr.out.mono (by omega), HW5.out.sl, HF2.out, HPB.out⟩
/-- as the engine has it. -/
theorem entry_any {F : Nat → Prop} {w : World} {b N : Nat} {g : Eng} {sA : Option Addr} {sc mb : Nat} {lv : Value} {T : Nat → Value} {X : List Xe} (h : EngIs F w b N g sA sc mb lv T X) (hs : Po.Sound g.p) (ht : ∀ i, Po.tk g.p i → (g.t i).length ≤ 200) {i : Nat} (hi : Po.tk g.p i) (hid : St.i64p (g.p.ids i)) :
    Calls Tryz.prog 43 #[.pointer (some ⟨b, 0, none⟩), .int .i64 (g.p.ids i)] w (EntPost (entry g i) w) := by
  obtain ⟨A, cc, hT, hsl⟩ := h.ts i hi
  have := entry_raw h.raw h.mp hid (A := A) (L := g.t i) (cc := cc) (i := i) (c := g.c i) (by unfold seatF; rw [slotAt_of hs hi]; show some (seatV T g i) = _; unfold seatV; rw [hT]) hsl.sl (ht i hi) hs.live64 (by have := hs.tk32 hi; omega)
  rw [done_not hs hi] at this
  exact this
end Go.Proofs.YtfdfiiocccafkaaGreatDoor.En
namespace Go.Proofs.YtfdfiiocccafkaaGreatDoor.En
open Go.RowKit
/-- from w with the own blocks F to w' with the own blocks F'. -/
def Mv (F : Nat → Prop) (w : World) (F' : Nat → Prop) (w' : World) : Prop := Kp F w w' ∧ ∀ k, k < w.heap.size → F' k → F k
theorem Mv.refl (F : Nat → Prop) (w : World) : Mv F w F w := ⟨Kp.refl F w, fun _ _ h => h⟩
theorem Mv.trans {F F' F'' : Nat → Prop} {a b c : World} (h : Mv F a F' b) (k : Mv F' b F'' c) : Mv F a F'' c :=
  ⟨⟨k.1.os.trans h.1.os, k.1.tape.trans h.1.tape, k.1.output.trans h.1.output, Nat.le_trans h.1.size k.1.size, fun i hi hf => (k.1.block i (Nat.lt_of_lt_of_le hi h.1.size) (fun x => hf (h.2 i hi x))).trans (h.1.block i hi hf)⟩, fun i hi x => h.2 i hi (k.2 i (Nat.lt_of_lt_of_le hi h.1.size) x)⟩
theorem Mv.below {F F' : Nat → Prop} {a b c : World} (h : Mv F a F' b) (hb : Below b.heap.size b c) : Mv F a F' c := ⟨h.1.below hb, h.2⟩
theorem Mv.of_below {F : Nat → Prop} {a b : World} (hb : Below a.heap.size a b) : Mv F a F b := (Mv.refl F a).below hb
theorem SlF.move {F F' : Nat → Prop} {w w' : World} {A : Option Addr} {c : Nat} {L : List Tx.Sp} (h : SlF F w A c L) (m : Mv F w F' w') : SlF F' w' A c L := ⟨(h.kp m.1).sl, (h.foot m.2).off⟩
theorem VrF.move {F F' : Nat → Prop} {w w' : World} {A : Option Addr} {L : List St.Vr} (h : VrF F w A L) (m : Mv F w F' w') : VrF F' w' A L := ⟨(h.kp m.1).at_, (h.foot m.2).off⟩
theorem EntAt.move {F F' : Nat → Prop} {w w' : World} {x : Xe} (h : EntAt F w x) (m : Mv F w F' w') : EntAt F' w' x := by
  obtain ⟨⟨A, c, e, h1⟩, ⟨B, d, e', h2⟩⟩ := h
  exact ⟨⟨A, c, e, h1.move m⟩, ⟨B, d, e', h2.move m⟩⟩
theorem TAt.move {F F' : Nat → Prop} {w w' : World} {g : Eng} {T : Nat → Value} (h : TAt F w g T) (m : Mv F w F' w') : TAt F' w' g T := fun i hi => by
  obtain ⟨A, c, e, h1⟩ := h i hi
  exact ⟨A, c, e, h1.move m⟩
theorem MapV.other {W W' : World} {b n sz : Nat} {z : Value} {f : Int → Option Value} (h : Tx.MapV W b n sz z f) (e : W'.heap[b]? = W.heap[b]?) : Tx.MapV W' b n sz z f := by
  obtain ⟨D, ⟨es, clock, hh, F, hs, hD⟩, hm⟩ := h
  exact ⟨D, ⟨es, clock, e.trans hh, F, hs, hD⟩, hm⟩
theorem row_other {W W' : World} {base : Nat} {e : TypeId} {size : Nat} {v : Value} {n : Nat} {xs : List Value} (h : W.ownsRow base e size v n xs) (hb : ∀ k, v.ownBlock = some k → W'.heap[k]? = W.heap[k]?) : W'.ownsRow base e size v n xs := by
  refine ⟨h.1, ?_⟩
  rcases h.2 with hn | ⟨g, cap, cur, rfl, h1, h2, rest⟩
  · exact .inl hn
  · exact .inr ⟨g, cap, cur, rfl, h1, (hb g rfl).trans h2, rest⟩
/-- the engine's own blocks hold these. -/
structure EngW (w : World) (b N : Nat) (p : Pl) (S : List St.Vr) (f : Int → Option Value) (log : List Ent) (n : Int) (sA : Option Addr) (sc mb : Nat) (lv : Value) (X : List Xe) : Prop where
  raw : RawAt w b p (.slice sA S.length sc) (.map (some mb)) lv n
  st : VrF (Foot b mb lv) w sA S
  mp : ∃ sz, Tx.MapV w mb N sz zeroSeat f
  lg : w.ownsRow 0 79 5 lv X.length (flatE X)
  xs : X.map (·.1) = log
  xe : ∀ x ∈ X, EntAt (Foot b mb lv) w x
section
variable {F : Nat → Prop} {w : World} {b N : Nat} {g : Eng} {sA : Option Addr} {sc mb : Nat} {lv : Value} {T : Nat → Value} {X : List Xe} {p : Pl} {S : List St.Vr} {f : Int → Option Value} {log : List Ent} {n : Int}
theorem EngIs.F_eq (h : EngIs F w b N g sA sc mb lv T X) : F = Foot b mb lv := funext fun k => propext (h.foot k)
theorem EngIs.toW (h : EngIs F w b N g sA sc mb lv T X) : EngW w b N g.p g.s (seatF T g) g.log g.n sA sc mb lv X := by
  obtain rfl := h.F_eq
  exact ⟨h.raw, h.st, h.mp, h.lg, h.xs, h.xe⟩
theorem EngW.is (h : EngW w b N g.p g.s (seatF T g) g.log g.n sA sc mb lv X) (ht : TAt (Foot b mb lv) w g T) : EngIs (Foot b mb lv) w b N g sA sc mb lv T X :=
  ⟨h.raw, h.st, h.mp, ht, h.lg, h.xs, h.xe, fun _ => Iff.rfl⟩
theorem EngW.bm (h : EngW w b N p S f log n sA sc mb lv X) : b ≠ mb := fun e => by
  obtain ⟨_, hm⟩ := h.mp
  obtain ⟨es, c, hm⟩ := MapV.obj hm
  have := h.raw.is
  rw [e, hm] at this
  cases this
theorem EngW.row (h : EngW w b N p S f log n sA sc mb lv X) {k : Nat} (e : lv.ownBlock = some k) : ∃ cs, w.heap[k]? = some (.cells cs 79 (0, 0)) := by
  rcases h.lg.2 with ⟨e2, _⟩ | ⟨q, cap, cur, e2, _, hg, _⟩
  · rw [e2] at e; cases e
  · rw [e2] at e
    have : q = k := by simpa [Value.ownBlock] using e
    rw [← this]; exact ⟨cur, hg⟩
theorem EngW.bl (h : EngW w b N p S f log n sA sc mb lv X) : lv.ownBlock ≠ some b := fun e => by
  obtain ⟨cs, hc⟩ := h.row e
  have := h.raw.is
  rw [hc] at this
  have := Option.some.inj this
  injection this with _ h2
  revert h2; decide
theorem EngW.ml (h : EngW w b N p S f log n sA sc mb lv X) : lv.ownBlock ≠ some mb := fun e => by
  obtain ⟨cs, hc⟩ := h.row e
  obtain ⟨_, hm⟩ := h.mp
  obtain ⟨es, c, hm⟩ := MapV.obj hm
  rw [hm] at hc
  cases hc
theorem EngW.lt (h : EngW w b N p S f log n sA sc mb lv X) (k : Nat) (hk : Foot b mb lv k) : k < w.heap.size := by
  rcases hk with rfl | rfl | e
  · exact h.raw.lt
  · obtain ⟨_, hm⟩ := h.mp; exact hm.lt
  · exact (h.lg.lt k e).2
theorem EngW.below {w' : World} (h : EngW w b N p S f log n sA sc mb lv X) (hb : Below w.heap.size w w') : EngW w' b N p S f log n sA sc mb lv X := by
  have hk : Kp (Foot b mb lv) w w' := .of_below hb
  obtain ⟨sz, hm⟩ := h.mp
  exact ⟨h.raw.below hb, h.st.kp hk, ⟨sz, hm.keep hb hm.lt⟩, row_other h.lg (fun k e => hb.block k (h.lg.lt k e).2), h.xs, fun x hx => (h.xe x hx).kp hk⟩
/-- another store. -/
theorem EngW.put_store {S' : List St.Vr} {A : Option Addr} {c : Nat} (h : EngW w b N p S f log n sA sc mb lv X) (hv : VrF (Foot b mb lv) w A S') :
    EngW (w.setCell ⟨b, 100, none⟩ (.slice A S'.length c)) b N p S' f log n A c mb lv X := by
  have hk : Kp (Foot b mb lv) w (w.setCell ⟨b, 100, none⟩ (.slice A S'.length c)) := (Kp.refl _ w).setCell (p := ⟨b, 100, none⟩) (.inl (.inl rfl)) _
  have ho : ∀ k, k ≠ b → (w.setCell ⟨b, 100, none⟩ (.slice A S'.length c)).heap[k]? = w.heap[k]? := fun k e => Below.heap_setCell _ _ _ _ e
  obtain ⟨sz, hm⟩ := h.mp
  exact ⟨h.raw.set_store _, hv.kp hk, ⟨sz, MapV.other hm (ho mb h.bm.symm)⟩, row_other h.lg (fun k e => ho k (fun x => h.bl (x ▸ e))), h.xs, fun x hx => (h.xe x hx).kp hk⟩
theorem EngW.kp_store (_h : EngW w b N p S f log n sA sc mb lv X) (v : Value) : Kp (Foot b mb lv) w (w.setCell ⟨b, 100, none⟩ v) := (Kp.refl _ w).setCell (p := ⟨b, 100, none⟩) (.inl (.inl rfl)) _
/-- another pool. -/
theorem EngW.put_pool (h : EngW w b N p S f log n sA sc mb lv X) (q : Pl) : EngW (w.setCells b 0 (poolA q).toList) b N q S f log n sA sc mb lv X := by
  have hk : Kp (Foot b mb lv) w (w.setCells b 0 (poolA q).toList) := Kp.setCells (.inl (.inl rfl)) _ _ _ (Kp.refl _ w)
  have ho : ∀ k, k ≠ b → (w.setCells b 0 (poolA q).toList).heap[k]? = w.heap[k]? := fun k e => heap_setCells_other b k e _ _ _
  obtain ⟨sz, hm⟩ := h.mp
  exact ⟨h.raw.put q, h.st.kp hk, ⟨sz, MapV.other hm (ho mb h.bm.symm)⟩, row_other h.lg (fun k e => ho k (fun x => h.bl (x ▸ e))), h.xs, fun x hx => (h.xe x hx).kp hk⟩
theorem kp_pool (q : Pl) (w : World) : Kp (Foot b mb lv) w (w.setCells b 0 (poolA q).toList) := Kp.setCells (.inl (.inl rfl)) _ _ _ (Kp.refl _ w)
/-- the number of commits. -/
theorem EngW.put_num (h : EngW w b N p S f log n sA sc mb lv X) (k : Int) : EngW (w.setCell ⟨b, 103, none⟩ (.int .i64 k)) b N p S f log k sA sc mb lv X := by
  have hk : Kp (Foot b mb lv) w (w.setCell ⟨b, 103, none⟩ (.int .i64 k)) := (Kp.refl _ w).setCell (p := ⟨b, 103, none⟩) (.inl (.inl rfl)) _
  have ho : ∀ j, j ≠ b → (w.setCell ⟨b, 103, none⟩ (.int .i64 k)).heap[j]? = w.heap[j]? := fun j e => Below.heap_setCell _ _ _ _ e
  obtain ⟨sz, hm⟩ := h.mp
  exact ⟨h.raw.set_num k, h.st.kp hk, ⟨sz, MapV.other hm (ho mb h.bm.symm)⟩, row_other h.lg (fun j e => ho j (fun x => h.bl (x ▸ e))), h.xs, fun x hx => (h.xe x hx).kp hk⟩
/-- another map in the map's block. -/
theorem EngW.put_map {w' : World} {N' : Nat} {f' : Int → Option Value} (h : EngW w b N p S f log n sA sc mb lv X) (hm : ∃ sz, Tx.MapV w' mb N' sz zeroSeat f') (hg : w.grownBy w' (some mb)) : EngW w' b N' p S f' log n sA sc mb lv X := by
  have hk : Kp (Foot b mb lv) w w' := (Kp.refl _ w).grown hg (fun k e => by cases e; exact .inl (.inr (.inl rfl)))
  exact ⟨h.raw.other (hg.block b h.raw.lt (fun e => by cases e; exact h.bm rfl)), h.st.kp hk, hm, h.lg.kept hg (.inr h.ml), h.xs, fun x hx => (h.xe x hx).kp hk⟩
theorem kp_map {w' : World} (hg : w.grownBy w' (some mb)) : Kp (Foot b mb lv) w w' := (Kp.refl _ w).grown hg (fun k e => by cases e; exact .inl (.inr (.inl rfl)))
/-- one entry more. -/
theorem EngW.put_log {w' : World} {x : Xe} {q cap : Nat} (h : EngW w b N p S f log n sA sc mb lv X) (hg : w.grownBy w' lv.ownBlock) (ho : w'.ownsRow 0 79 5 (.slice (some ⟨q, 0, none⟩) (X.length + 1) cap) (X.length + 1) (flatE X ++ entC x)) (hq : lv.ownBlock = some q ∨ q = w.heap.size) (hx : EntAt (Foot b mb lv) w x) :
    EngW (w'.setCell ⟨b, 102, none⟩ (.slice (some ⟨q, 0, none⟩) (X.length + 1) cap)) b N p S f (log ++ [x.1]) n sA sc mb (.slice (some ⟨q, 0, none⟩) (X.length + 1) cap) (X ++ [x]) ∧
    Mv (Foot b mb lv) w (Foot b mb (.slice (some ⟨q, 0, none⟩) (X.length + 1) cap)) (w'.setCell ⟨b, 102, none⟩ (.slice (some ⟨q, 0, none⟩) (X.length + 1) cap)) := by
  have hk : Kp (Foot b mb lv) w w' := (Kp.refl _ w).grown hg (fun k e => .inl (.inr (.inr e)))
  have hk2 := hk.setCell (p := ⟨b, 102, none⟩) (.inl (.inl rfl)) (.slice (some ⟨q, 0, none⟩) (X.length + 1) cap)
  have hF : ∀ k, k < w.heap.size → Foot b mb (.slice (some ⟨q, 0, none⟩) (X.length + 1) cap) k → Foot b mb lv k := fun k hk' hf => by
    rcases hf with e | e | e
    · exact .inl e
    · exact .inr (.inl e)
    · have : q = k := by simpa [Value.ownBlock] using e
      rcases hq with hq | hq
      · exact .inr (.inr (this ▸ hq))
      · omega
  have mv : Mv (Foot b mb lv) w (Foot b mb (.slice (some ⟨q, 0, none⟩) (X.length + 1) cap)) (w'.setCell ⟨b, 102, none⟩ (.slice (some ⟨q, 0, none⟩) (X.length + 1) cap)) := ⟨hk2, hF⟩
  have hb' : w'.heap[b]? = w.heap[b]? := hg.block b h.raw.lt (fun e => h.bl e.symm)
  have hqb : q ≠ b := fun e => by
    rcases hq with hq | hq
    · exact h.bl (e ▸ hq)
    · have := h.raw.lt; omega
  have hset : ∀ k, k ≠ b → (w'.setCell ⟨b, 102, none⟩ (.slice (some ⟨q, 0, none⟩) (X.length + 1) cap)).heap[k]? = w'.heap[k]? := fun k e => Below.heap_setCell _ _ _ _ e
  obtain ⟨sz, hm⟩ := h.mp
  refine ⟨⟨(h.raw.other hb').set_log _, h.st.move mv, ⟨sz, MapV.other hm ?_⟩, ?_, by simp [h.xs], ?_⟩, mv⟩
  · rw [hset mb h.bm.symm]
    exact hg.block mb hm.lt (fun e => h.ml e.symm)
  · have := row_other (W' := w'.setCell ⟨b, 102, none⟩ (.slice (some ⟨q, 0, none⟩) (X.length + 1) cap)) ho (fun k e => hset k (by
      have : q = k := by simpa [Value.ownBlock] using e
      omega))
    rw [List.length_append, flatE_append]
    simpa [flatE] using this
  · intro y hy
    rcases List.mem_append.1 hy with hy | hy
    · exact (h.xe y hy).move mv
    · simp at hy
      subst hy
      exact hx.move mv
end
/-- a deletion, at its operation. -/
theorem wpList_del {w : World} {ops : Array Oper} {rest : List Oper} {o : Oper} {a : Go.Act} {Q : Exit → Go.Act → World → Prop} (hg : o.guard = none) (m x : Operand) (t e : TypeId) (hop : o.op = .call { callee := .builtin .delete, args := #[m, x], argTypes := #[t, 3] }) (ht : Tryz.prog.underlying t = some (.map 3 e))
    (b n : Nat) (z : Value) (f : Int → Option Value) (hm : a.eval m = .map (some b)) (h : ∃ sz, Tx.MapV w b n sz z f) (y : Int) (hx : a.eval x = .int .i64 y) (hy : St.i64p y)
    (hK : ∀ w', (∃ sz, Tx.MapV w' b n sz z (fun t => if t = y then none else f t)) → w.grownBy w' (some b) → wpList Tryz.prog ops Q rest (a.put o.dst (.tuple #[])) w') : wpList Tryz.prog ops Q (o :: rest) a w := by
  obtain ⟨sz, h⟩ := h
  refine wpList_plain hg fun K' hK' => ?_
  obtain ⟨w', sz', hrun, r1, r2⟩ := MapV.del h ht o.type hy
  unfold Oper.wp execOp
  simp only [hop, resolve, invoke, builtin, Sem.run_bind, Sem.run_pure, Result.andThen_ok, List.map_toArray, List.map_cons, List.map_nil, hm, hx, hrun]
  exact hK' _ _ (hK w' ⟨sz', r1⟩ r2)
end Go.Proofs.YtfdfiiocccafkaaGreatDoor.En
