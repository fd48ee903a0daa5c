/-
  The library's iterator over a slice from behind: its contract.
  The contract of txn.Look.
  Maps by whole numbers that a call has made, as functions; the contract of rising.
  The contracts of txn.Reads and txn.Writes.
-/
import Derived.Test.YtfdfiiocccafkaaGreatDoorJTxn
import Derived.RangeFuncNested
import Derived.RangeFuncBound
import Derived.RangeFuncCalls
import Derived.RangeFuncLeaves
import Derived.Shelf.Abstract
import Derived.Shelf.RegionOpen
import Derived.OwnWalkIn
import Derived.TacticsInMore
import Derived.LoopNIn
import Derived.LoopIn
import Derived.Maps.OwnIn
import Derived.Maps.OwnSet
import Derived.Maps.Views
import Derived.Deep.WholeRow
namespace Go.Proofs.YtfdfiiocccafkaaGreatDoor.Tx
open Go.RowKit Go.Shelf
attribute [local go_sem] Oper.semAt_some
/-- a step that fits. -/
abbrev OkSp := { s : Sp // s.ok }
/-- what a round that goes on keeps: all that lay below n₀, and the box of the slice. -/
def KpB (n₀ Bs : Nat) (A B : World) : Prop := Below n₀ A B ∧ B.heap[Bs]? = A.heap[Bs]?
theorem kpB_t {n₀ Bs : Nat} {A B C : World} (h : KpB n₀ Bs A B) (k : KpB n₀ Bs B C) : KpB n₀ Bs A C := ⟨h.1.trans k.1, k.2.trans h.2⟩
theorem kpB_b {n₀ Bs : Nat} {w : World} (hn : n₀ ≤ w.heap.size) (hB : Bs < w.heap.size) (W : World) (l : Nat) (o o' : Obj) (hl : w.heap.size ≤ l) (h : W.heap[l]? = some o) (h1 : o.isCells = false) (h2 : o.isWalk = false) : KpB n₀ Bs W (W.putObj l o') :=
  ⟨belowK_b hn W l o o' hl h h1 h2, World.putObj_heap_other (by omega)⟩
theorem kpB_refl (n₀ Bs : Nat) (A : World) : KpB n₀ Bs A A := ⟨Below.refl _ _, rfl⟩
theorem KpB.set {n₀ Bs : Nat} {A B : World} (h : KpB n₀ Bs A B) {b : Nat} (hn : n₀ ≤ b) (hB : b ≠ Bs) (i : Nat) (v : Value) : KpB n₀ Bs A (B.setCell ⟨b, i, none⟩ v) :=
  ⟨h.1.setCell (p := ⟨b, i, none⟩) hn v, (Below.heap_setCell _ _ _ Bs (fun e => hB e.symm)).trans h.2⟩
theorem KpB.alloc {n₀ Bs : Nat} {A B : World} (h : KpB n₀ Bs A B) (hn : n₀ ≤ B.heap.size) (hB : Bs < B.heap.size) (o : Obj) : KpB n₀ Bs A (B.alloc o) :=
  ⟨h.1.alloc hn o, (Below.heap_alloc B o Bs hB).trans h.2⟩
set_option maxHeartbeats 1000000 in
theorem backward_any (A : Option Addr) (n c : Nat) (w : World) :
    Calls Tryz.prog 106 #[.slice A n c] w fun e w' => e = .returned (.func (.func 144) #[] #[.pointer (some ⟨w.heap.size, 0, none⟩)]) ∧ w' = w.alloc (.cells #[.slice A n c] 113) := by
  go_enter Tryz.func106, Tryz.ntmps106
  go_wp2
  go_ret
  exact ⟨rfl, rfl⟩
set_option maxRecDepth 100000 in
set_option maxHeartbeats 2000000 in
theorem back1_in (n : Nat) (hn : 1 ≤ n) (l Bs n₀ c : Nat) (A : Option Addr) (zs : List OkSp) (hl : zs.length ≤ 400) (J Jx : List (Nat × OkSp) → World → Prop)
    (hY : ∀ pre x W, J pre W → pre.length < zs.length → YieldAt Fence.wide (n - 1) Tryz.prog l #[.int .i64 ((x.1 : Nat) : Int), .agg (stepA x.2.1)] W fun e W' =>
      (e = .returned (.bool true) ∧ J (pre ++ [x]) W' ∧ KpB n₀ Bs W W') ∨ (e = .returned (.bool false) ∧ Jx (pre ++ [x]) W'))
    (W : World) (hBs : W.cell? ⟨Bs, 0, none⟩ = some (.slice A zs.length c)) (hA : VarsAt W A (zs.map (·.1))) (hA0 : ∀ ad, A = some ad → 0 < zs.length → ad.block < n₀) (h0 : J [] W) :
    CallsIn Fence.wide n Tryz.prog 144 #[.func (.yield l) #[] #[], .pointer (some ⟨Bs, 0, none⟩)] W fun e W' => (∃ v, e = .returned v) ∧
      ((∃ ys, ys.map Prod.snd = zs.reverse ∧ J ys W') ∨ (∃ pre, pre.map Prod.snd <+: zs.reverse ∧ Jx pre W')) := by
  have hN : (zs.length : Int) ≤ 400 := by omega
  have hs : wrap64 ((zs.length : Int) - 1) = (zs.length : Int) - 1 := by unfold wrap64; omega
  refine callsIn_of_wp Tryz.func144 rfl trivial ?_ rfl
  simp only [Tryz.ntmps144, List.size_toArray, List.length_cons, List.length_nil, Nat.reduceAdd, Nat.reduceSub, Array.replicate_succ, Array.replicate_zero, List.push_toArray, List.append_toArray, List.nil_append, List.cons_append]
  gi_wp2
  gi_loopw [3] (fun i wr => ∃ m : Nat, m ≤ zs.length ∧ i = .int .i64 ((m : Int) - 1) ∧ ∃ pre, pre.map Prod.snd = zs.reverse.take (zs.length - m) ∧ J pre wr ∧ KpB n₀ Bs W wr)
    (fun i _ => (intOf i + 1).toNat)
  case atStart => exact ⟨zs.length, Nat.le_refl _, rfl, [], by simp, h0, kpB_refl _ _ _⟩
  case round =>
    obtain ⟨m, hm, rfl, pre, hpre, hJ, hk⟩ := hrel
    have hlen : pre.length = zs.length - m := by
      have := congrArg List.length hpre
      simp at this
      omega
    rcases m with _ | m
    · have hneg : ¬ (((0 : Nat) : Int) - 1 ≥ 0) := by omega
      have hn1 : ((0 : Nat) : Int) - 1 = -1 := rfl
      rw [hn1] at hneg ⊢
      gi_wp2
      go_end0
      exact ⟨⟨_, rfl⟩, .inl ⟨pre, by rw [hpre, Nat.sub_zero, List.take_of_length_le (by simp)], hJ⟩⟩
    · have hi : (((m + 1 : Nat) : Int) - 1) = (m : Int) := by omega
      rw [hi]
      have hlt : m < zs.length := by omega
      obtain ⟨ad, z, rfl, hz, hzo, _⟩ := hA.at_ (j := m) (by simpa using hlt)
      have hb0 := hA0 ad rfl (by omega)
      have hA2 : VarsAt wr (some ad) (zs.map (·.1)) := ⟨fun hl => by
        obtain ⟨ad', e, hc⟩ := hA.cell hl
        exact ⟨ad', e, fun j u hu => by
          have := hc j u hu
          cases e
          exact (hk.1.cell (by rw [add_block]; exact hb0)).trans this⟩, hA.ok⟩
      obtain ⟨ad', z', e', hz', _, h4⟩ := hA2.at_ (j := m) (by simpa using hlt)
      cases e'
      obtain rfl : z = z' := Option.some.inj (hz.symm.trans hz')
      obtain ⟨c0, c1, c2, c3⟩ := h4
      have hbx : wr.cell? ⟨Bs, 0, none⟩ = some (.slice (some ad) zs.length c) := (World.cell?_of_block (a := ⟨Bs, 0, none⟩) hk.2).trans hBs
      have hzr : zs.reverse[zs.length - (m + 1)]? = some ⟨z, hzo⟩ := by
        rw [List.getElem?_reverse (by omega)]
        have : zs.length - 1 - (zs.length - (m + 1)) = m := by omega
        rw [this]
        rw [List.getElem?_map] at hz
        cases e : zs[m]? with
        | none => rw [e] at hz; cases hz
        | some y => rw [e] at hz; simp at hz; subst hz; rfl
      obtain ⟨fn, tmps, assign, body, hy, hR⟩ := hY pre (m, ⟨z, hzo⟩) wr hJ (by omega)
      dsimp only at hy
      unfold stepA at hy
      have hm400 : (m : Int) ≤ 400 := by omega
      have hpos : (m : Int) ≥ 0 := by omega
      have hltI : (m : Int) < (zs.length : Int) := by omega
      have hsub : wrap64 ((m : Int) - 1) = (m : Int) - 1 := by unfold wrap64; omega
      clear hz hz' hA hA2
      gi_wp2
      refine hR.mono ?_
      rintro e W3 (⟨rfl, hJ3, hk3⟩ | ⟨rfl, hJx3⟩)
      · gi_wp2
        go_roundw
        case rel =>
          refine ⟨m, by omega, rfl, pre ++ [(m, ⟨z, hzo⟩)], ?_, hJ3, kpB_t hk hk3⟩
          rw [List.map_append, hpre]
          have e2 : zs.length - m = (zs.length - (m + 1)) + 1 := by omega
          rw [e2, take_step hzr]
          rfl
        case measure => simp [intOf]
      · gi_wp2
        refine bodyPost_ret (results_none rfl _ _ _) rfl ?_
        refine ⟨⟨_, rfl⟩, .inr ⟨_, ?_, hJx3⟩⟩
        rw [List.map_append, hpre]
        have := take_step hzr
        show zs.reverse.take (zs.length - (m + 1)) ++ [⟨z, hzo⟩] <+: _
        rw [← this]
        exact List.take_prefix _ _
theorem back_stops (n : Nat) (hn : 1 ≤ n) (Bs n₀ c : Nat) (A : Option Addr) (zs : List OkSp) (hl : zs.length ≤ 400) (w : World) (hBs : w.cell? ⟨Bs, 0, none⟩ = some (.slice A zs.length c)) (hA : VarsAt w A (zs.map (·.1))) (hA0 : ∀ ad, A = some ad → 0 < zs.length → ad.block < n₀) :
    SeqStopsK Fence.wide n Tryz.prog 144 #[.pointer (some ⟨Bs, 0, none⟩)] (fun x : Nat × OkSp => #[.int .i64 ((x.1 : Nat) : Int), .agg (stepA x.2.1)]) (KpB n₀ Bs) (fun ys => ys.map Prod.snd = zs.reverse) (fun pre => pre.map Prod.snd <+: zs.reverse) zs.length w := fun l J Jx W hW _ _ hY h0 =>
  back1_in n hn l Bs n₀ c A zs hl J Jx hY W ((hW.cell (cell_lt hBs)).trans hBs) (hA.below hW (Nat.le_refl _)) hA0 h0
end Go.Proofs.YtfdfiiocccafkaaGreatDoor.Tx
namespace Go.Proofs.YtfdfiiocccafkaaGreatDoor.Tx
open Go.RowKit Go.Shelf
attribute [local go_sem] Oper.semAt_some
theorem ok_list : ∀ {L : List Sp}, (∀ v ∈ L, v.ok) → ∃ zs : List OkSp, zs.map (·.1) = L
  | [], _ => ⟨[], rfl⟩
  | v :: L, h => by
    obtain ⟨zs, e⟩ := ok_list (L := L) fun u hu => h u (by simp [hu])
    exact ⟨⟨v, h v (by simp)⟩ :: zs, by simp [e]⟩
theorem VarsAt.low {w : World} {A : Option Addr} {L : List Sp} (h : VarsAt w A L) : ∀ ad, A = some ad → 0 < L.length → ad.block < w.heap.size := by
  intro ad e hl
  obtain ⟨ad', v, e', _, _, h4⟩ := h.at_ hl
  rw [e] at e'; cases e'
  have := cell_lt h4.c0
  rwa [add_block] at this
/-- the block b holds these cells. -/
def Blk (W : World) (b : Nat) (cs : Array Value) (t : TypeId) : Prop := W.heap[b]? = some (.cells cs t (0, 0))
theorem Blk.new (W : World) (cs : Array Value) (t : TypeId) : Blk (W.alloc (.cells cs t)) W.heap.size cs t := heap_alloc_new W _
theorem Blk.new' {W : World} {b : Nat} (h : W.heap.size = b) (cs : Array Value) (t : TypeId) : Blk (W.alloc (.cells cs t)) b cs t := by subst h; exact Blk.new W cs t
theorem Blk.lt {W : World} {b : Nat} {cs : Array Value} {t : TypeId} (h : Blk W b cs t) : b < W.heap.size := (Array.getElem?_eq_some_iff.1 h).1
theorem Blk.alloc {W : World} {b : Nat} {cs : Array Value} {t : TypeId} (h : Blk W b cs t) (o : Obj) : Blk (W.alloc o) b cs t := (Below.heap_alloc W o b h.lt).trans h
theorem Blk.cell {W : World} {b : Nat} {cs : Array Value} {t : TypeId} (h : Blk W b cs t) (i : Nat) : W.cell? ⟨b, i, none⟩ = cs[i]? := cell_of_row W b i _ t (0, 0) h
theorem Blk.free {W : World} {b : Nat} {cs : Array Value} {t : TypeId} (h : Blk W b cs t) (i : Nat) : W.frozen? ⟨b, i, none⟩ = false := by
  simp [World.frozen?, show W.heap[b]? = _ from h]
theorem Blk.other {W : World} {b : Nat} {cs : Array Value} {t : TypeId} (h : Blk W b cs t) {b' : Nat} (hne : b ≠ b') (i : Nat) (v : Value) : Blk (W.setCell ⟨b', i, none⟩ v) b cs t := (Below.heap_setCell _ _ _ b hne).trans h
theorem Blk.set {W : World} {b : Nat} {cs : Array Value} {t : TypeId} (h : Blk W b cs t) (i : Nat) (v : Value) : Blk (W.setCell ⟨b, i, none⟩ v) b (cs.setIfInBounds i v) t := by
  have := show W.heap[b]? = _ from h
  simp [Blk, World.setCell, Array.getElem?_modify, this]
theorem Blk.put {W : World} {b l : Nat} {cs : Array Value} {t : TypeId} {o : Obj} (h : Blk W b cs t) (hl : W.heap[l]? = some o) (ho : o.isCells = false) (o' : Obj) : Blk (W.putObj l o') b cs t := by
  have hne : b ≠ l := fun e => by subst e; rw [show W.heap[b]? = _ from h] at hl; cases hl; cases ho
  exact (World.putObj_heap_other hne).trans h
theorem blk_own {β : Type} (b : Nat) (t : TypeId) (f : β → Array Value) : Own (fun s W => Blk W b (f s) t) := fun s X Y row hs hg hrow =>
  (hg.block b hs.lt (fun e' => by obtain ⟨o, ho, hc⟩ := hrow b e'.symm; rw [show X.heap[b]? = _ from hs] at ho; cases ho; cases hc)).trans hs
def lookK (o : Option Sp) : Int := (o.map (·.k)).getD 0
def lookN (o : Option Sp) : Int := (o.map (·.n)).getD 0
def lookR (L : List Sp) (x : Int) : Value := .tuple #[.agg #[.int .i64 (lookK (look L x)), .int .i64 (lookN (look L x))], .bool (look L x).isSome]
theorem Blk.kept {X Y : World} {row : Option Nat} {b : Nat} {cs : Array Value} {t : TypeId} {B : Nat} (h : Blk X b cs t) (hg : X.grownBy Y row) (hr : ∀ r, row = some r → B ≤ r ∧ ∃ o : Obj, X.heap[r]? = some o ∧ o.isCells = false) : Blk Y b cs t :=
  (hg.block b h.lt (fun e' => by obtain ⟨_, o, ho, hc⟩ := hr b e'.symm; rw [show X.heap[b]? = _ from h] at ho; cases ho; cases hc)).trans h
/-- the steps that have come, as a row. -/
def came (pre : List (Nat × OkSp)) : List Sp := (pre.map (fun p => p.2.1)).reverse
theorem came_snoc (pre : List (Nat × OkSp)) (y : Nat × OkSp) : came (pre ++ [y]) = y.2.1 :: came pre := by simp [came]
theorem came_all {pre : List (Nat × OkSp)} {zs : List OkSp} (h : pre.map Prod.snd = zs.reverse) : came pre = zs.map (·.1) := by
  have : pre.map (fun p => p.2.1) = (pre.map Prod.snd).map (·.1) := by simp
  rw [came, this, h]; simp
theorem came_part {pre : List (Nat × OkSp)} {zs : List OkSp} (h : pre.map Prod.snd <+: zs.reverse) : ∃ M, zs.map (·.1) = M ++ came pre := by
  obtain ⟨q, hq⟩ := h
  have e : pre.map (fun p => p.2.1) = (pre.map Prod.snd).map (·.1) := by simp
  refine ⟨(q.map (·.1)).reverse, ?_⟩
  have h2 := congrArg List.reverse hq
  rw [List.reverse_reverse] at h2
  rw [← h2, came, e, List.reverse_append, List.map_append, List.map_reverse, List.map_reverse]
structure LookI (w : World) (x : Int) (P : List Sp) (W : World) : Prop where
  bx : Blk W w.heap.size #[.int .i64 x] 3
  rv : Blk W (w.heap.size + 1) #[.int .i64 0, .int .i64 0] 71
  rb : Blk W (w.heap.size + 1 + 1) #[.bool false] 4
  v : Blk W (w.heap.size + 1 + 1 + 1) #[.int .i64 (lookK (first P x)), .int .i64 (lookN (first P x))] 71
  b : Blk W (w.heap.size + 1 + 1 + 1 + 1) #[.bool (first P x).isSome] 4
  none_ : wr1 P x = none
  sz : w.heap.size + 1 + 1 + 1 + 1 + 1 < W.heap.size
  bel : Below w.heap.size w W
structure LookX (w : World) (x : Int) (P : List Sp) (W : World) : Prop where
  is : ∃ s, wr1 P x = some s ∧ Blk W (w.heap.size + 1) #[.int .i64 s.k, .int .i64 s.n] 71
  rb : Blk W (w.heap.size + 1 + 1) #[.bool true] 4
  bel : Below w.heap.size w W
theorem LookI.own (w : World) (x : Int) (B : Nat) (hB : w.heap.size ≤ B) : OwnFrom B (fun (pre : List (Nat × OkSp)) W => LookI w x (came pre) W) := fun _ _ _ _ hs hg hr =>
  ⟨hs.bx.kept hg hr, hs.rv.kept hg hr, hs.rb.kept hg hr, hs.v.kept hg hr, hs.b.kept hg hr, hs.none_, Nat.lt_of_lt_of_le hs.sz hg.size, hs.bel.grown hg hs.bel.size (fun k e => Nat.le_trans hB (hr k e).1)⟩
theorem LookX.own (w : World) (x : Int) (B : Nat) (hB : w.heap.size ≤ B) (c : Code) : OwnFrom B (fun (pre : List (Nat × OkSp)) W => c = .ret ∧ LookX w x (came pre) W) := fun _ _ _ _ hs hg hr =>
  ⟨hs.1, by obtain ⟨s, e, h⟩ := hs.2.is; exact ⟨s, e, h.kept hg hr⟩, hs.2.rb.kept hg hr, hs.2.bel.grown hg hs.2.bel.size (fun k e => Nat.le_trans hB (hr k e).1)⟩
theorem LookI.alloc {w : World} {x : Int} {P : List Sp} {W : World} (h : LookI w x P W) (o : Obj) : LookI w x P (W.alloc o) :=
  ⟨h.bx.alloc o, h.rv.alloc o, h.rb.alloc o, h.v.alloc o, h.b.alloc o, h.none_, by rw [size_new]; exact Nat.lt_succ_of_lt h.sz, h.bel.alloc h.bel.size o⟩
theorem first_cons_no {s : Sp} {P : List Sp} {x : Int} (h : s.x ≠ x) : first (s :: P) x = first P x := by simp [first, h]
theorem first_cons_yes {s : Sp} {P : List Sp} {x : Int} (h : s.x = x) : first (s :: P) x = some s := by simp [first, h]
theorem wr1_cons_none {s : Sp} {P : List Sp} {x : Int} (h : ¬ (s.x = x ∧ s.wr = true)) (hP : wr1 P x = none) : wr1 (s :: P) x = none := by
  have : s :: P = [s] ++ P := rfl
  rw [this, wr1_append, hP]
  simp [wr1, h]
theorem wr1_cons_yes {s : Sp} {P : List Sp} {x : Int} (h : s.x = x) (hw : s.wr = true) (hP : wr1 P x = none) : wr1 (s :: P) x = some s := by
  have : s :: P = [s] ++ P := rfl
  rw [this, wr1_append, hP]
  simp [wr1, h, hw]
theorem LookI.skip {w : World} {x : Int} {P : List Sp} {W : World} (h : LookI w x P W) {s : Sp} (hs : s.x ≠ x) : LookI w x (s :: P) W :=
  ⟨h.bx, h.rv, h.rb, by rw [first_cons_no hs]; exact h.v, by rw [first_cons_no hs]; exact h.b, wr1_cons_none (fun e => hs e.1) h.none_, h.sz, h.bel⟩
theorem LookI.read {w : World} {x : Int} {P : List Sp} {W : World} (h : LookI w x P W) {s : Sp} (hs : s.x = x) (hw : s.wr = false) :
    LookI w x (s :: P) (((W.setCell ⟨w.heap.size + 1 + 1 + 1, 0, none⟩ (.int .i64 s.k)).setCell ⟨w.heap.size + 1 + 1 + 1, 1, none⟩ (.int .i64 s.n)).setCell ⟨w.heap.size + 1 + 1 + 1 + 1, 0, none⟩ (.bool true)) :=
  ⟨((h.bx.other (by omega) _ _).other (by omega) _ _).other (by omega) _ _, ((h.rv.other (by omega) _ _).other (by omega) _ _).other (by omega) _ _, ((h.rb.other (by omega) _ _).other (by omega) _ _).other (by omega) _ _,
    by rw [first_cons_yes hs]; exact ((h.v.set 0 _).set 1 _).other (by omega) _ _, by rw [first_cons_yes hs]; exact (((h.b.other (by omega) _ _).other (by omega) _ _).set 0 _), wr1_cons_none (fun e => by rw [hw] at e; cases e.2) h.none_,
    by rw [World.size_setCell, World.size_setCell, World.size_setCell]; exact h.sz, ((h.bel.setCell (by simp; omega) _).setCell (by simp; omega) _).setCell (by simp; omega) _⟩
theorem LookI.kpRead {w : World} {x : Int} {P : List Sp} {W : World} (_ : LookI w x P W) (k n : Int) :
    KpB w.heap.size (w.heap.size + 1 + 1 + 1 + 1 + 1) W (((W.setCell ⟨w.heap.size + 1 + 1 + 1, 0, none⟩ (.int .i64 k)).setCell ⟨w.heap.size + 1 + 1 + 1, 1, none⟩ (.int .i64 n)).setCell ⟨w.heap.size + 1 + 1 + 1 + 1, 0, none⟩ (.bool true)) :=
  (((kpB_refl _ _ _).set (by omega) (by omega) _ _).set (by omega) (by omega) _ _).set (by omega) (by omega) _ _
theorem LookI.write {w : World} {x : Int} {P : List Sp} {W : World} (h : LookI w x P W) {s : Sp} (hs : s.x = x) (hw : s.wr = true) :
    LookX w x (s :: P) (((W.setCell ⟨w.heap.size + 1, 0, none⟩ (.int .i64 s.k)).setCell ⟨w.heap.size + 1, 1, none⟩ (.int .i64 s.n)).setCell ⟨w.heap.size + 1 + 1, 0, none⟩ (.bool true)) :=
  ⟨⟨s, wr1_cons_yes hs hw h.none_, ((h.rv.set 0 _).set 1 _).other (by omega) _ _⟩, ((h.rb.other (by omega) _ _).other (by omega) _ _).set 0 _, ((h.bel.setCell (by simp) _).setCell (by simp) _).setCell (by simp; omega) _⟩
theorem keeps3 (B : Nat) (W : World) (a b c : Addr) (u v z : Value) : KeepsFrom B W (((W.setCell a u).setCell b v).setCell c z) := (((KeepsOthers.setCell _ _ _).trans (KeepsOthers.setCell _ _ _)).trans (KeepsOthers.setCell _ _ _)).from B
/-- the world in which Look's loop begins. -/
def lookW (w : World) (x : Int) (A : Option Addr) (n c : Nat) : World := ((((((w.alloc (.cells #[.int .i64 x] 3)).alloc (.cells #[.int .i64 0, .int .i64 0] 71)).alloc (.cells #[.bool false] 4)).alloc (.cells #[.int .i64 0, .int .i64 0] 71)).alloc (.cells #[.bool false] 4)).alloc (.cells #[.slice A n c] 113))
theorem lookW_size (w : World) (x : Int) (A : Option Addr) (n c : Nat) : (lookW w x A n c).heap.size = w.heap.size + 1 + 1 + 1 + 1 + 1 + 1 := by simp [lookW]
theorem lookW_below (w : World) (x : Int) (A : Option Addr) (n c : Nat) : Below w.heap.size w (lookW w x A n c) := by
  unfold lookW
  exact (((((((Below.refl _ w).alloc (Nat.le_refl _) _).alloc (by simp) _).alloc (by simp; omega) _).alloc (by simp; omega) _).alloc (by simp; omega) _).alloc (by simp; omega) _)
theorem lookW_start (w : World) (x : Int) (A : Option Addr) (n c : Nat) : LookI w x [] (lookW w x A n c) :=
  ⟨(((((Blk.new w _ _).alloc _).alloc _).alloc _).alloc _).alloc _, ((((Blk.new' (by simp) _ _).alloc _).alloc _).alloc _).alloc _, (((Blk.new' (by simp) _ _).alloc _).alloc _).alloc _, ((Blk.new' (by simp) _ _).alloc _).alloc _, (Blk.new' (by simp) _ _).alloc _, rfl, by rw [lookW_size]; exact Nat.lt_succ_self _, lookW_below w x A n c⟩
theorem lookW_box (w : World) (x : Int) (A : Option Addr) (n c : Nat) : Blk (lookW w x A n c) (w.heap.size + 1 + 1 + 1 + 1 + 1) #[.slice A n c] 113 := Blk.new' (by simp) _ _
theorem below_drewB (B : Nat) (W : World) : Below B W W.drew := ⟨rfl, rfl, rfl, Nat.le_refl _, fun _ _ => rfl⟩
theorem Blk.drew {W : World} {b : Nat} {cs : Array Value} {t : TypeId} (h : Blk W b cs t) : Blk W.drew b cs t := h
theorem val_size : (Tryz.prog.info? 71).map (·.size) = some 2 := by kernel_rfl
theorem results_two {fn : Func} {p q : Tmp} {ty : TypeId} (h : fn.results = #[.cell p ty, .cell q 4]) (tmps : Array Value) (W : World) (b b' : Nat) (t t' : TypeId) (k n : Int) (z : Bool) (fs : _) (hp : tmps.getD p undef = .pointer (some ⟨b, 0, none⟩)) (hq : tmps.getD q undef = .pointer (some ⟨b', 0, none⟩)) (h1 : Blk W b #[.int .i64 k, .int .i64 n] t) (h2 : Blk W b' #[.bool z] t')
    (hu : Tryz.prog.underlying ty = some (.struct fs)) (hi : (Tryz.prog.info? ty).map (·.size) = some 2) : (results fn tmps).run Tryz.prog W = .ok (.tuple #[.agg #[.int .i64 k, .int .i64 n], .bool z]) W := by
  have hc := h2.cell 0
  simp only [List.getElem?_toArray, List.getElem?_cons_zero] at hc
  have hl : (loadVar 4 ⟨b', 0, none⟩).run Tryz.prog W = .ok (.bool z) W := by
    simp [loadVar, go_sem, hc]
  rw [Array.getD_eq_getD_getElem?] at hp hq
  simp [results, h, hp, hq, asAddr, Result.andThen, run_loadVar_row W b t ty _ (0, 0) _ h1 hu rfl hi, hl]
set_option maxRecDepth 100000 in
set_option maxHeartbeats 4000000 in
theorem look_any (A : Option Addr) (c : Nat) (L : List Sp) (x : Int) (w : World) (h : VarsAt w A L) (hl : L.length ≤ 300) :
    Calls Tryz.prog 64 #[.slice A L.length c, .int .i64 x] w fun e w' => e = .returned (lookR L x) ∧ Below w.heap.size w w' := by
  obtain ⟨zs, rfl⟩ := ok_list h.ok
  have hA0 := h.low
  rw [List.length_map] at hl hA0 ⊢
  have HZ := Lib.hid h
  clear h
  have HW0 := lookW_start w x A zs.length c
  have HS0 := lookW_size w x A zs.length c
  have HX0 := lookW_box w x A zs.length c
  refine (callsIn_wide (n := 5)).1 ?_
  refine callsIn_of_wp_marks Tryz.func64 rfl trivial ?_ rfl
  simp only [Tryz.ntmps64, List.size_toArray, List.length_cons, List.length_nil, Nat.reduceAdd, Nat.reduceSub, Array.replicate_succ, Array.replicate_zero, List.push_toArray, List.append_toArray, List.nil_append, List.cons_append]
  gi_wp2_with (refine ⟨trivial, ?_⟩; gi_at_call 106; refine (callsIn_wide.2 (backward_any _ _ _ _)).mono ?_; rintro e w' ⟨rfl, rfl⟩)
  unfold lookW at HW0 HS0 HX0
  generalize ((((((w.alloc (.cells #[.int .i64 x] 3)).alloc (.cells #[.int .i64 0, .int .i64 0] 71)).alloc (.cells #[.bool false] 4)).alloc (.cells #[.int .i64 0, .int .i64 0] 71)).alloc (.cells #[.bool false] 4)).alloc (.cells #[.slice A zs.length c] 113)) = W0 at HW0 HS0 HX0 ⊢
  refine wpIn_rangeFunc_ownH rfl (by decide) (gf := 144) (lb := #[.pointer (some ⟨w.heap.size + 1 + 1 + 1 + 1 + 1, 0, none⟩)]) rfl trivial (enters_of Tryz.func144 (by kernel_rfl) rfl)
    (back_stops 4 (by decide) (w.heap.size + 1 + 1 + 1 + 1 + 1) w.heap.size c A zs (by omega) W0 (HX0.cell 0) (HZ.out.below HW0.bel (Nat.le_refl _)) hA0) kpB_t (kpB_b (by omega) (by omega)) (Below.refl _ _) (fun _ => rfl)
    (fun pre W => LookI w x (came pre) W) (fun c pre W => c = .ret ∧ LookX w x (came pre) W)
    (LookI.own w x _ (by omega)) (fun c => LookX.own w x _ (by omega) c) HW0
    (fun y a' W => ∃ Bx, w.heap.size + 1 + 1 + 1 + 1 + 1 < Bx ∧ Blk W Bx (stepA y.2.1) 76 ∧ a' = { tmps := #[.slice A zs.length c, .int .i64 x, undef, .pointer (some ⟨w.heap.size, 0, none⟩), .pointer (some ⟨w.heap.size + 1, 0, none⟩), .pointer (some ⟨w.heap.size + 1 + 1, 0, none⟩), .pointer (some ⟨w.heap.size + 1 + 1 + 1, 0, none⟩), .pointer (some ⟨w.heap.size + 1 + 1 + 1 + 1, 0, none⟩), undef, .pointer (some ⟨Bx, 0, none⟩), .slice A zs.length c, .func (.func 144) #[] #[.pointer (some ⟨w.heap.size + 1 + 1 + 1 + 1 + 1, 0, none⟩)], .int .i64 ((y.1 : Nat) : Int), .agg (stepA y.2.1), undef, undef, undef, undef, undef, undef, undef, undef, undef, undef, undef, undef], defers := [] })
    (fun y a' => fun _ X Y row hs hg hr => by obtain ⟨Bx, h1, h2, h3⟩ := hs; exact ⟨Bx, h1, h2.kept hg hr, h3⟩) ?assign ?body ?done ?stop
  case assign =>
    rintro l pre y W K hi hK
    simp only [stepA] at hK ⊢
    gi_wp2
    exact hK _ _ ((KeepsOthers.alloc _ _).from _) ((kpB_refl _ _ _).alloc hi.bel.size hi.sz _) (hi.alloc _) ⟨W.heap.size, hi.sz, Blk.new _ _ _, rfl⟩
  case body =>
    rintro l pre y a' W hl' ⟨r, hr⟩ hi ⟨Bx, hBx, hX, rfl⟩ hlt
    obtain ⟨j, s, hok⟩ := y
    simp only [stepA] at hX ⊢
    have x0 := hX.cell 0
    have x1 := hX.cell 1
    have x2 := hX.cell 2
    have x3 := hX.cell 3
    simp only [List.getElem?_toArray, List.getElem?_cons_succ, List.getElem?_cons_zero] at x0 x1 x2 x3
    have b0 := hi.bx.cell 0
    simp only [List.getElem?_toArray, List.getElem?_cons_zero] at b0
    have v0 := hi.v.cell 0
    have v1 := hi.v.cell 1
    have k0 := hi.b.cell 0
    have r0 := hi.rv.cell 0
    have r1 := hi.rv.cell 1
    have r2 := hi.rb.cell 0
    simp only [List.getElem?_toArray, List.getElem?_cons_succ, List.getElem?_cons_zero] at v0 v1 k0 r0 r1 r2
    have f1 := hi.rv.free
    have f2 := hi.rb.free
    have f3 := hi.v.free
    have f4 := hi.b.free
    by_cases hx : s.x = x
    · have hne : (s.x != x) = false := by simpa using hx
      cases hw : s.wr with
      | true =>
        rw [hw] at x3
        have HR := Lib.hid (hi.write hx hw)
        clear hx
        gi_wp2
        exact ⟨keeps3 _ _ _ _ _ _ _ _, rfl, by rw [came_snoc]; exact HR.out⟩
      | false =>
        rw [hw] at x3
        have HR := Lib.hid (hi.read hx hw)
        have HK := Lib.hid (hi.kpRead s.k s.n)
        clear hx
        gi_wp2
        exact ⟨keeps3 _ _ _ _ _ _ _ _, HK.out, by show LookI _ _ (came _) _; rw [came_snoc]; exact HR.out⟩
    · have hne : (s.x != x) = true := by simpa using hx
      have HR := Lib.hid (hi.skip hx)
      clear hx
      gi_wp2
      exact ⟨KeepsFrom.refl _ _, kpB_refl _ _ _, by show LookI _ _ (came _) _; rw [came_snoc]; exact HR.out⟩
  case done =>
    rintro D ys W hD hys hi hK
    have v0 := hi.v.cell 0
    have v1 := hi.v.cell 1
    have k0 := hi.b.cell 0
    have r0 := hi.rv.cell 0
    have r1 := hi.rv.cell 1
    have r2 := hi.rb.cell 0
    simp only [List.getElem?_toArray, List.getElem?_cons_succ, List.getElem?_cons_zero] at v0 v1 k0 r0 r1 r2
    have f1 := hi.rv.free
    have f2 := hi.rb.free
    gi_wp2
    refine wpIn_wide.2 ?_
    go_region
    gi_wp2
    have hE : came ys = zs.map (·.1) := came_all hys
    have hn := hi.none_
    have h1 := ((hi.rv.set 0 (.int .i64 (lookK (first (came ys) x)))).set 1 (.int .i64 (lookN (first (came ys) x)))).other (b' := w.heap.size + 1 + 1) (by omega) 0 (.bool (first (came ys) x).isSome)
    have h2 := (((hi.rb.other (b' := w.heap.size + 1) (by omega) 0 (.int .i64 (lookK (first (came ys) x)))).other (b' := w.heap.size + 1) (by omega) 1 (.int .i64 (lookN (first (came ys) x)))).set 0 (.bool (first (came ys) x).isSome))
    have h3 := ((hi.bel.setCell (p := ⟨w.heap.size + 1, 0, none⟩) (by simp) (.int .i64 (lookK (first (came ys) x)))).setCell (p := ⟨w.heap.size + 1, 1, none⟩) (by simp) (.int .i64 (lookN (first (came ys) x)))).setCell (p := ⟨w.heap.size + 1 + 1, 0, none⟩) (by simp; omega) (.bool (first (came ys) x).isSome)
    have hK' := (keeps3 W0.heap.size W ⟨w.heap.size + 1, 0, none⟩ ⟨w.heap.size + 1, 1, none⟩ ⟨w.heap.size + 1 + 1, 0, none⟩ (.int .i64 (lookK (first (came ys) x))) (.int .i64 (lookN (first (came ys) x))) (.bool (first (came ys) x).isSome)).same D _ hD hK rfl
    refine ⟨by simp, .inl ⟨_, _, rfl, run_takeDeferred (w := World.drew _) hK', ?_⟩⟩
    refine ⟨_, results_two rfl _ _ (w.heap.size + 1) (w.heap.size + 1 + 1) 71 4 _ _ _ _ rfl rfl (h1.put hK' rfl _) (h2.put hK' rfl _) Tryz.underlying71 val_size, ?_, ?_⟩
    · unfold lookR look
      rw [← hE, hn]
      rfl
    · exact (h3.trans (below_drewB _ _)).trans (belowK_b (n₀ := w.heap.size) (w := W0) (by omega) (World.drew _) D _ _ hD hK' rfl rfl)
  case stop =>
    rintro D c' pre W hD hpre ⟨rfl, hx⟩ hK
    gi_wp2
    obtain ⟨M, hM⟩ := came_part hpre
    obtain ⟨s, hs, h1⟩ := hx.is
    refine ⟨by simp, .inl ⟨_, _, rfl, run_takeDeferred hK, ?_⟩⟩
    refine ⟨_, results_two rfl _ _ (w.heap.size + 1) (w.heap.size + 1 + 1) 71 4 _ _ _ _ rfl rfl (h1.put hK rfl _) (hx.rb.put hK rfl _) Tryz.underlying71 val_size, ?_, ?_⟩
    · unfold lookR look
      rw [hM, wr1_append, hs]
      rfl
    · exact hx.bel.trans (belowK_b (n₀ := w.heap.size) (w := W0) (by omega) _ D _ _ hD hK rfl rfl)
end Go.Proofs.YtfdfiiocccafkaaGreatDoor.Tx
namespace Go.Proofs.YtfdfiiocccafkaaGreatDoor.Tx
open Go.RowKit Go.Shelf
open Go.Maps (Keyed int_keyed keyOf_int_mk)
def heldR (v : Value) : Option (DataW Value × List MemPlace) := some (.held v, [])
/-- the block b is a map of sz entries, at most n; at x it has f x; z stands for nothing. -/
def MapV (W : World) (b n sz : Nat) (z : Value) (f : Int → Option Value) : Prop :=
  ∃ D : DataW Value, W.ownsMap Tryz.prog 3 heldR b n D ∧ Maps.Tidy D ∧ Maps.size D = sz ∧ (∀ x, Maps.has D (.int .i64 x) = (f x).isSome) ∧ ∀ x, D.atKey (.int .i64 x) (.held z) = .held ((f x).getD z)
theorem wf_i64 {z : Int} (h : i64p z) : (Lit.int .i64 z).wf = true := by
  obtain ⟨h0, h1⟩ := h
  have e0 : IntKind.i64.min = -9223372036854775808 := by decide
  have e1 : IntKind.i64.max = 9223372036854775807 := by decide
  simp only [Lit.wf, e0, e1, Bool.and_eq_true, decide_eq_true_eq]
  exact ⟨h0, h1⟩
theorem MapV.lt {W : World} {b n sz : Nat} {z : Value} {f : Int → Option Value} (h : MapV W b n sz z f) : b < W.heap.size := by
  obtain ⟨D, ho, _⟩ := h
  exact ho.lt
theorem mapV_made (W : World) (z : Value) : MapV (W.alloc (.map #[] 0)) W.heap.size 0 0 z (fun _ => none) :=
  ⟨.map [], World.ownsMap_made W _ _ _, Maps.tidy_empty, rfl, fun _ => rfl, fun _ => rfl⟩
theorem MapV.keep {W W' : World} {b n sz B : Nat} {z : Value} {f : Int → Option Value} (h : MapV W b n sz z f) (hb : Below B W W') (hB : b < B) : MapV W' b n sz z f := by
  obtain ⟨D, ⟨es, clock, hh, F, hs, hD⟩, hm⟩ := h
  exact ⟨D, ⟨es, clock, (hb.block b hB).trans hh, F, hs, hD⟩, hm⟩
theorem MapV.kept {W W' : World} {b n sz : Nat} {row : Option Nat} {z : Value} {f : Int → Option Value} (h : MapV W b n sz z f) (hg : W.grownBy W' row) (hne : some b ≠ row) : MapV W' b n sz z f := by
  obtain ⟨D, ho, hm⟩ := h
  exact ⟨D, ho.kept hg hne, hm⟩
theorem MapV.alloc {W : World} {b n sz : Nat} {z : Value} {f : Int → Option Value} (h : MapV W b n sz z f) (o : Obj) : MapV (W.alloc o) b n sz z f := h.keep (below_new W o) h.lt
theorem MapV.congr {W : World} {b n sz : Nat} {z : Value} {f g : Int → Option Value} (h : MapV W b n sz z f) (e : ∀ x, f x = g x) : MapV W b n sz z g := by
  obtain rfl : f = g := funext e
  exact h
theorem MapV.look {W : World} {b n sz : Nat} {z : Value} {f : Int → Option Value} (h : MapV W b n sz z f) {t e : TypeId} (ht : Tryz.prog.underlying t = some (.map 3 e)) (hz : (zeroValue e).run Tryz.prog W = .ok z W) {x : Int} (hx : i64p x) :
    (Instr.lookup t (.map (some b)) (.int .i64 x) true).run Tryz.prog W = .ok (.tuple #[(f x).getD z, .bool (f x).isSome]) W := by
  obtain ⟨D, ho, _, _, hh, ha⟩ := h
  obtain ⟨v, ps, hrun, hv⟩ := ho.look_ok (int_keyed Tryz.underlying3) ht hz (zd := .held z) (zp := []) rfl (keyOf_int_mk Tryz.underlying3 (wf_i64 hx))
  rw [ha x] at hv
  simp only [heldR, Option.some.injEq, Prod.mk.injEq, DataW.held.injEq] at hv
  rw [hrun, hh x, hv.1]
theorem MapV.update {W : World} {b n sz : Nat} {z : Value} {f : Int → Option Value} (h : MapV W b n sz z f) {t e : TypeId} (ht : Tryz.prog.underlying t = some (.map 3 e)) (hn : n < 4096) {x : Int} (hx : i64p x) (u : Value) :
    ∃ W', (Instr.mapUpdate t (.map (some b)) (.int .i64 x) u).run Tryz.prog W = .ok () W' ∧ MapV W' b (n + 1) (if (f x).isSome then sz else sz + 1) z (fun y => if y = x then some u else f y) ∧ W.grownBy W' (some b) := by
  obtain ⟨D, ho, ht', hs, hh, ha⟩ := h
  obtain ⟨W', hrun, r1, r2⟩ := ho.update (int_keyed Tryz.underlying3) ht (by unfold maxLen; omega) (keyOf_int_mk Tryz.underlying3 (wf_i64 hx)) (val := u) (d := .held u) (ps := []) rfl
  refine ⟨W', hrun, ⟨_, r1, ht'.put (by simp [WideAt.IsKeyLit]) _, ?_, ?_, ?_⟩, r2⟩
  · rw [Maps.size_put ht', hh x, hs]
  · intro y
    show _ = (if y = x then some u else f y).isSome
    by_cases e : y = x
    · subst e
      rw [if_pos rfl, Maps.has_put_same ht'.isMap (by simp [WideAt.IsKeyLit])]; rfl
    · rw [if_neg e, Maps.has_put_other (by simpa using e), hh y]
  · intro y
    show _ = DataW.held ((if y = x then some u else f y).getD z)
    by_cases e : y = x
    · subst e
      rw [if_pos rfl, Maps.atKey_put_same ht'.isMap (by simp [WideAt.IsKeyLit])]; rfl
    · rw [if_neg e, Maps.atKey_put_other (by simpa using e), ha y]
theorem wpListIn_putM {F : Fence} {nF : Nat} {w : World} {ops : Array Oper} {rest : List Oper} {o : Oper} {a : Act} {Q : Exit → Act → World → Prop} (hg : o.guard = none) (m x v : Operand) (t e : TypeId) (hop : o.op = Op.mapUpdate t m x v) (ht : Tryz.prog.underlying t = some (.map 3 e))
    (b n sz : Nat) (z : Value) (f : Int → Option Value) (hm : a.eval m = .map (some b)) (h : MapV w b n sz z f) (hn : n < 4096) (y : Int) (u : Value) (hx : a.eval x = .int .i64 y) (hv : a.eval v = u) (hy : i64p y)
    (hK : ∀ w', MapV w' b (n + 1) (if (f y).isSome then sz else sz + 1) z (fun t => if t = y then some u else f t) → w.grownBy w' (some b) → wpListIn F nF Tryz.prog ops Q rest (a.put o.dst undef) w') : wpListIn F nF Tryz.prog ops Q (o :: rest) a w := by
  refine wpListIn_plain hg fun K' hK' => ?_
  obtain ⟨w', hrun, r1, r2⟩ := h.update ht hn hy u
  unfold Oper.wpIn
  refine ⟨by simp [Oper.about, hop], ?_⟩
  rw [Oper.semAt_plain F _ _ (by rw [hop]; intro c hc'; cases hc')]
  simp [execOp, hop, hm, hx, hv, hrun, Result.andThen]
  exact hK' _ _ (hK w' r1 r2)
theorem wpList_putM {w : World} {ops : Array Oper} {rest : List Oper} {o : Oper} {a : Act} {Q : Exit → Act → World → Prop} (hg : o.guard = none) (m x v : Operand) (t e : TypeId) (hop : o.op = Op.mapUpdate t m x v) (ht : Tryz.prog.underlying t = some (.map 3 e))
    (b n sz : Nat) (z : Value) (f : Int → Option Value) (hm : a.eval m = .map (some b)) (h : MapV w b n sz z f) (hn : n < 4096) (y : Int) (u : Value) (hx : a.eval x = .int .i64 y) (hv : a.eval v = u) (hy : i64p y)
    (hK : ∀ w', MapV w' b (n + 1) (if (f y).isSome then sz else sz + 1) z (fun t => if t = y then some u else f t) → w.grownBy w' (some b) → wpList Tryz.prog ops Q rest (a.put o.dst undef) w') : wpList Tryz.prog ops Q (o :: rest) a w := by
  refine wpList_plain hg fun K' hK' => ?_
  obtain ⟨w', hrun, r1, r2⟩ := h.update ht hn hy u
  unfold Oper.wp
  simp [execOp, hop, hm, hx, hv, hrun, Result.andThen]
  exact hK' _ _ (hK w' r1 r2)
/-- a map of steps. -/
def zeroS : Value := .agg #[.int .i64 0, .int .i64 0, .int .i64 0, .bool false]
def MapS (W : World) (b n : Nat) (f : Int → Option Sp) : Prop := ∃ sz, MapV W b n sz zeroS (fun x => (f x).map (fun s => .agg (stepA s)))
theorem MapS.lt {W : World} {b n : Nat} {f : Int → Option Sp} (h : MapS W b n f) : b < W.heap.size := by obtain ⟨_, h⟩ := h; exact h.lt
theorem mapS_made (W : World) : MapS (W.alloc (.map #[] 0)) W.heap.size 0 (fun _ => none) := ⟨0, mapV_made W zeroS⟩
theorem MapS.keep {W W' : World} {b n B : Nat} {f : Int → Option Sp} (h : MapS W b n f) (hb : Below B W W') (hB : b < B) : MapS W' b n f := by obtain ⟨sz, h⟩ := h; exact ⟨sz, h.keep hb hB⟩
theorem MapS.kept {W W' : World} {b n : Nat} {row : Option Nat} {f : Int → Option Sp} (h : MapS W b n f) (hg : W.grownBy W' row) (hne : some b ≠ row) : MapS W' b n f := by obtain ⟨sz, h⟩ := h; exact ⟨sz, h.kept hg hne⟩
theorem MapS.alloc {W : World} {b n : Nat} {f : Int → Option Sp} (h : MapS W b n f) (o : Obj) : MapS (W.alloc o) b n f := by obtain ⟨sz, h⟩ := h; exact ⟨sz, h.alloc o⟩
theorem MapS.congr {W : World} {b n : Nat} {f g : Int → Option Sp} (h : MapS W b n f) (e : ∀ x, f x = g x) : MapS W b n g := by
  obtain rfl : f = g := funext e
  exact h
theorem MapS.mono {W : World} {b n m : Nat} {f : Int → Option Sp} (h : MapS W b n f) (hm : n ≤ m) : MapS W b m f := by
  obtain ⟨sz, D, ho, hr⟩ := h
  exact ⟨sz, D, ho.mono hm, hr⟩
theorem zero_step (w : World) : (zeroValue 76).run Tryz.prog w = .ok zeroS w := by
  have h : (Tryz.prog.info? 76).map (fun i => (i.zero, i.size)) = some (some zeroS, 4) := by kernel_rfl
  exact (zero_of_info h).1 w
theorem MapS.look {W : World} {b n : Nat} {f : Int → Option Sp} (h : MapS W b n f) {x : Int} (hx : i64p x) :
    (Instr.lookup 203 (.map (some b)) (.int .i64 x) true).run Tryz.prog W = .ok (.tuple #[.agg (stepA ((f x).getD zero)), .bool (f x).isSome]) W := by
  obtain ⟨sz, h⟩ := h
  rw [h.look Tryz.underlying203 (zero_step W) hx]
  cases f x <;> rfl
def RiseRel (f : Int → Option Sp) (w : World) (v i : Value) (wr : World) : Prop := ∃ k : Nat, k ≤ 64 ∧ i = .int .i64 k ∧ OwnVars wr w.heap.size 76 v (rise f k) ∧ Below w.heap.size w wr
/-- a row that reads so, and nothing that was there is changed. -/
def SlPost (L : List Sp) (w : World) (e : Ending) (w' : World) : Prop := ∃ T d, e = .returned (.slice T L.length d) ∧ SlAt w' T d L ∧ Below w.heap.size w w' ∧ Fr w.heap.size T
set_option maxHeartbeats 2000000 in
set_option maxRecDepth 100000 in
theorem rising_any (b n : Nat) (f : Int → Option Sp) (w : World) (h : MapS w b n f) (hok : ∀ x s, f x = some s → s.ok) :
    Calls Tryz.prog 112 #[.map (some b)] w (SlPost (rise f 64) w) := by
  have H := Lib.hid h
  have HOK := Lib.hid hok
  clear h hok
  go_enter Tryz.func112, Tryz.ntmps112
  go_wp2
  go_loopw [3, 7] (RiseRel f w) (fun _ i _ => 64 - (intOf i).toNat)
  case atStart => exact ⟨0, Nat.zero_le _, rfl, own_nil _ _ _, Below.refl _ _⟩
  case round =>
    obtain ⟨k, hk, rfl, ho, hb⟩ := hrel
    have HO := Lib.hid ho
    have HB := Lib.hid hb
    clear ho hb
    by_cases hlt : k < 64
    · have hlt' : (k : Int) < 64 := by omega
      have hm := (H.out.keep HB.out H.out.lt).look (x := ((k : Nat) : Int)) ⟨by omega, by omega⟩
      cases hf : f ((k : Nat) : Int) with
      | none =>
        rw [hf] at hm
        simp only [Option.getD_none, Option.isSome_none, stepA, zero] at hm
        have HF := Lib.hid hf
        clear hf
        go_wp2
        go_round
        case rel => exact ⟨k + 1, by omega, by go_num, by rw [rise_succ_none HF.out]; exact HO.out.alloc _, HB.out.alloc HB.out.size _⟩
        case measure => simp [intOf]; omega
      | some s =>
        rw [hf] at hm
        simp only [Option.getD_some, Option.isSome_some, stepA] at hm
        have HF := Lib.hid hf
        clear hf
        have HX := Lib.hid (stepAt_new wr s 76)
        have d0 := HX.out.c0
        have d1 := HX.out.c1
        have d2 := HX.out.c2
        have d3 := HX.out.c3
        unfold stepA at d0 d1 d2 d3
        have HN := Lib.hid (new_vars' (w := wr.alloc (.cells (stepA s) 76)) (size_new _ _) s 76 (HOK.out _ _ HF.out))
        unfold stepA at HN
        go_wp2_with (at_builtin; refine append_vars lvt rfl _ _ rfl rfl ((HO.out.alloc _).alloc _) _ _ [s] rfl rfl HN.out ?c1 ?c2 ?_)
        case c1 => have := rise_len f k; simp; omega
        case c2 => have := HB.out.size; simp; omega
        intro v' w2 ho2 hb2 hs2
        have HO2 := Lib.hid ho2
        have HB2 := Lib.hid (((HB.out.alloc HB.out.size _).alloc (by have := HB.out.size; simp; omega) _).trans hb2)
        clear ho2 hb2
        go_wp2
        go_round
        case rel => exact ⟨k + 1, by omega, by go_num, by rw [rise_succ_some HF.out]; exact HO2.out, HB2.out⟩
        case measure => simp [intOf]; omega
    · obtain rfl : k = 64 := by omega
      go_wp2
      have ho := HO.out
      obtain ⟨T, d, rfl, hv, hfr⟩ := ho.slf
      go_ret
      exact ⟨_, _, rfl, hv, HB.out, hfr⟩
end Go.Proofs.YtfdfiiocccafkaaGreatDoor.Tx
namespace Go.Proofs.YtfdfiiocccafkaaGreatDoor.Tx
open Go.RowKit Go.Shelf
attribute [local go_sem] Oper.semAt_some
theorem VarsAt.put {W : World} {A : Option Addr} {L : List Sp} {D : Nat} {o : Obj} (h : VarsAt W A L) (hD : W.heap[D]? = some o) (ho : o.isCells = false) (o' : Obj) : VarsAt (W.putObj D o') A L :=
  ⟨fun hl => by
    obtain ⟨ad, e, hc⟩ := h.cell hl
    exact ⟨ad, e, fun j u hu => cell_kept (hc j u hu) (grownBy_putObj' W D o') (fun r e => by cases e; exact ⟨o, hD, ho⟩)⟩, h.ok⟩
/-- what the loops of Reads and Writes keep: the map, its box, its steps. -/
structure MapI (w : World) (n : Nat) (f : Int → Option Sp) (W : World) : Prop where
  map : MapS W w.heap.size n f
  box : Blk W (w.heap.size + 1) #[.map (some w.heap.size)] 203
  ok : ∀ x s, f x = some s → s.ok
  sz : w.heap.size + 1 + 1 < W.heap.size
  bel : Below w.heap.size w W
theorem MapI.grown {w : World} {n : Nat} {f : Int → Option Sp} {X Y : World} {row : Option Nat} {B : Nat} (hB : w.heap.size + 1 + 1 + 1 ≤ B) (hs : MapI w n f X) (hg : X.grownBy Y row) (hr : ∀ r, row = some r → B ≤ r ∧ ∃ o : Obj, X.heap[r]? = some o ∧ o.isCells = false) : MapI w n f Y :=
  ⟨hs.map.kept hg (fun e => by have := (hr _ e.symm).1; omega), hs.box.kept hg hr, hs.ok, Nat.lt_of_lt_of_le hs.sz hg.size, hs.bel.grown hg hs.bel.size (fun k e => by have := (hr k e).1; omega)⟩
theorem MapI.alloc {w : World} {n : Nat} {f : Int → Option Sp} {W : World} (h : MapI w n f W) (o : Obj) : MapI w n f (W.alloc o) :=
  ⟨h.map.alloc o, h.box.alloc o, h.ok, by rw [size_new]; exact Nat.lt_succ_of_lt h.sz, h.bel.alloc h.bel.size o⟩
theorem MapI.same {w : World} {n m : Nat} {f g : Int → Option Sp} {W : World} (h : MapI w n f W) (e : ∀ x, f x = g x) (hm : n ≤ m) : MapI w m g W := by
  obtain rfl : f = g := funext e
  exact ⟨h.map.mono hm, h.box, h.ok, h.sz, h.bel⟩
/-- a step is put into the map. -/
theorem MapI.put {w : World} {n sz : Nat} {f : Int → Option Sp} {W W' : World} (h : MapI w n f W) {s : Sp} (hs : s.ok) (hm : MapV W' w.heap.size (n + 1) sz zeroS (fun t => if t = s.x then some (.agg (stepA s)) else (f t).map (fun s => .agg (stepA s)))) (hg : W.grownBy W' (some w.heap.size)) :
    MapI w (n + 1) (fun t => if t = s.x then some s else f t) W' :=
  ⟨⟨sz, hm.congr fun x => by by_cases e : x = s.x <;> simp [e]⟩, (hg.block _ h.box.lt (by simp)).trans h.box, fun x u hu => by
    by_cases e : x = s.x
    · rw [if_pos e] at hu; cases hu; exact hs
    · rw [if_neg e] at hu; exact h.ok x u hu, Nat.lt_of_lt_of_le h.sz hg.size, h.bel.grown hg h.bel.size (fun k e => by cases e; exact Nat.le_refl _)⟩
theorem MapI.kp {w : World} {n : Nat} {f : Int → Option Sp} {W W' : World} (h : MapI w n f W) (hg : W.grownBy W' (some w.heap.size)) : KpB w.heap.size (w.heap.size + 1 + 1) W W' :=
  ⟨(Below.refl _ W).grown hg h.bel.size (fun k e => by cases e; exact Nat.le_refl _), hg.block _ h.sz (by simp; omega)⟩
/-- the world in which their loops begin. -/
def mapW (w : World) (A : Option Addr) (n c : Nat) : World := (((w.alloc (.map #[] 0)).alloc (.cells #[.map (some w.heap.size)] 203)).alloc (.cells #[.slice A n c] 113))
theorem mapW_size (w : World) (A : Option Addr) (n c : Nat) : (mapW w A n c).heap.size = w.heap.size + 1 + 1 + 1 := by simp [mapW]
theorem mapW_start (w : World) (A : Option Addr) (n c : Nat) : MapI w 0 (fun _ => none) (mapW w A n c) :=
  ⟨((mapS_made w).alloc _).alloc _, (Blk.new' (by simp) _ _).alloc _, (fun _ _ h => (by cases h)), by rw [mapW_size]; exact Nat.lt_succ_self _, (((Below.refl _ w).alloc (Nat.le_refl _) _).alloc (by simp) _).alloc (by simp; omega) _⟩
theorem mapW_box (w : World) (A : Option Addr) (n c : Nat) : Blk (mapW w A n c) (w.heap.size + 1 + 1) #[.slice A n c] 113 := Blk.new' (by simp) _ _
theorem rd1_cons_wr {s : Sp} {P : List Sp} (h : s.wr = true) (x : Int) : rd1 P x = rd1 (s :: P) x := by simp [rd1, h]
theorem rd1_cons_rd {s : Sp} {P : List Sp} (h : s.wr = false) (x : Int) : (if x = s.x then some s else rd1 P x) = rd1 (s :: P) x := by
  by_cases e : x = s.x
  · subst e; simp [rd1, h]
  · have : ¬ s.x = x := fun h => e h.symm
    simp [rd1, e, this]
set_option maxRecDepth 100000 in
set_option maxHeartbeats 4000000 in
theorem reads_any (A : Option Addr) (c : Nat) (L : List Sp) (w : World) (h : VarsAt w A L) (hl : L.length ≤ 300) :
    Calls Tryz.prog 86 #[.slice A L.length c] w (SlPost (readsL L) w) := by
  obtain ⟨zs, rfl⟩ := ok_list h.ok
  have hA0 := h.low
  rw [List.length_map] at hl hA0 ⊢
  have HZ := Lib.hid h
  clear h
  have HW0 := mapW_start w A zs.length c
  have HS0 := mapW_size w A zs.length c
  have HX0 := mapW_box w A zs.length c
  have hmm := @run_makeMap Tryz.prog
  refine (callsIn_wide (n := 5)).1 ?_
  refine callsIn_of_wp_marks Tryz.func86 rfl trivial ?_ rfl
  simp only [Tryz.ntmps86, List.size_toArray, List.length_cons, List.length_nil, Nat.reduceAdd, Nat.reduceSub, Array.replicate_succ, Array.replicate_zero, List.push_toArray, List.append_toArray, List.nil_append, List.cons_append]
  gi_wp2_with (refine ⟨trivial, ?_⟩; gi_at_call 106; refine (callsIn_wide.2 (backward_any _ _ _ _)).mono ?_; rintro e w' ⟨rfl, rfl⟩)
  unfold mapW at HW0 HS0 HX0
  generalize (((w.alloc (.map #[] 0)).alloc (.cells #[.map (some w.heap.size)] 203)).alloc (.cells #[.slice A zs.length c] 113)) = W0 at HW0 HS0 HX0 ⊢
  clear hmm
  refine wpIn_rangeFunc_ownH rfl (by decide) (gf := 144) (lb := #[.pointer (some ⟨w.heap.size + 1 + 1, 0, none⟩)]) rfl trivial (enters_of Tryz.func144 (by kernel_rfl) rfl)
    (back_stops 4 (by decide) (w.heap.size + 1 + 1) w.heap.size c A zs (by omega) W0 (HX0.cell 0) (HZ.out.below HW0.bel (Nat.le_refl _)) hA0) kpB_t (kpB_b (by omega) (by omega)) (Below.refl _ _) (fun _ => rfl)
    (fun pre W => MapI w pre.length (rd1 (came pre)) W) (fun _ _ _ => False)
    (fun _ _ _ _ hs hg hr => hs.grown (by omega) hg hr) (fun _ _ _ _ _ hs _ _ => hs) HW0
    (fun y a' W => ∃ Bx, w.heap.size + 1 + 1 < Bx ∧ Blk W Bx (stepA y.2.1) 76 ∧ a' = { tmps := #[.slice A zs.length c, undef, .slice none 0 0, .pointer (some ⟨w.heap.size + 1, 0, none⟩), undef, .pointer (some ⟨Bx, 0, none⟩), .map (some w.heap.size), .slice A zs.length c, .func (.func 144) #[] #[.pointer (some ⟨w.heap.size + 1 + 1, 0, none⟩)], .int .i64 ((y.1 : Nat) : Int), .agg (stepA y.2.1), undef, undef, undef, undef, undef, undef, undef, undef, undef], defers := [] })
    (fun y a' => fun _ X Y row hs hg hr => by obtain ⟨Bx, h1, h2, h3⟩ := hs; exact ⟨Bx, h1, h2.kept hg hr, h3⟩) ?assign ?body ?done ?stop
  case assign =>
    rintro l pre y W K hi hK
    simp only [stepA] at hK ⊢
    gi_wp2
    exact hK _ _ ((KeepsOthers.alloc _ _).from _) ((kpB_refl _ _ _).alloc hi.bel.size hi.sz _) (hi.alloc _) ⟨W.heap.size, hi.sz, Blk.new _ _ _, rfl⟩
  case body =>
    rintro l pre y a' W hl' ⟨r, hr⟩ hi ⟨Bx, hBx, hX, rfl⟩ hlt
    obtain ⟨j, s, hok⟩ := y
    simp only [stepA] at hX ⊢
    have x0 := hX.cell 0
    have x1 := hX.cell 1
    have x2 := hX.cell 2
    have x3 := hX.cell 3
    simp only [List.getElem?_toArray, List.getElem?_cons_succ, List.getElem?_cons_zero] at x0 x1 x2 x3
    have b0 := hi.box.cell 0
    simp only [List.getElem?_toArray, List.getElem?_cons_zero] at b0
    obtain ⟨sz, hm⟩ := hi.map
    cases hw : s.wr with
    | true =>
      rw [hw] at x3
      gi_wp2
      exact ⟨KeepsFrom.refl _ _, kpB_refl _ _ _, by show MapI w (pre ++ [_]).length (rd1 (came _)) _; rw [came_snoc, List.length_append]; exact hi.same (rd1_cons_wr hw) (Nat.le_succ _)⟩
    | false =>
      rw [hw] at x3
      have hE : Value.agg (stepA s) = .agg #[.int .i64 s.x, .int .i64 s.k, .int .i64 s.n, .bool false] := by simp [stepA, hw]
      have HM := Lib.hid hm
      clear hm
      gi_wp2_with (gi_at_mapUpdate; refine wpListIn_putM rfl _ _ _ 203 76 rfl Tryz.underlying203 w.heap.size pre.length sz zeroS _ rfl HM.out (by omega) s.x (.agg (stepA s)) rfl hE.symm hok.1 ?_; intro w1 hm1 hg1)
      have hn := hi.put hok hm1 hg1
      exact ⟨KeepsFrom.of_grownBy hg1 (fun j e => by cases e; omega), hi.kp hg1, by show MapI w (pre ++ [_]).length (rd1 (came _)) _; rw [came_snoc, List.length_append]; exact hn.same (rd1_cons_rd hw) (Nat.le_refl _)⟩
  case done =>
    rintro D ys W hD hys hi hK
    have b0 := hi.box.cell 0
    simp only [List.getElem?_toArray, List.getElem?_cons_zero] at b0
    rw [came_all hys] at hi
    gi_wp2_with (refine ⟨trivial, ?_⟩; gi_at_call 112; refine (callsIn_wide.2 (rising_any _ _ _ _ hi.map hi.ok)).mono ?_; rintro e w1 ⟨T, d, rfl, hv, hb, hfr⟩)
    have hK' : w1.heap[D]? = some (.deferred (some [])) := (hb.block D (Array.getElem?_eq_some_iff.1 hK).1).trans hK
    refine ⟨by simp, .inl ⟨_, _, rfl, run_takeDeferred hK', ?_⟩⟩
    exact ⟨_, results_tmp rfl _ _ _, T, d, rfl, ⟨hv.at_.put hK' rfl _, hv.le, hv.max⟩, (hi.bel.trans (hb.mono hi.bel.size)).trans (belowK_b (n₀ := w.heap.size) (w := W0) (by omega) _ D _ _ hD hK' rfl rfl), hfr.mono hi.bel.size⟩
  case stop =>
    rintro D c' pre W hD hpre hx hK
    exact hx.elim
theorem wr1_cons (s : Sp) (P : List Sp) (x : Int) : wr1 (s :: P) x = (wr1 P x).or (if x = s.x ∧ s.wr = true then some s else none) := by
  have e : s :: P = [s] ++ P := rfl
  rw [e, wr1_append]
  congr 1
  by_cases h : x = s.x ∧ s.wr = true
  · rw [if_pos h]; simp [wr1, h.1, h.2]
  · rw [if_neg h]
    simp [wr1]
    intro h1
    have : ¬ s.wr = true := fun h2 => h ⟨h1.symm, h2⟩
    simpa using this
theorem wr1_step_no {s : Sp} {P : List Sp} (h : s.wr = false ∨ (wr1 P s.x).isSome = true) (x : Int) : wr1 P x = wr1 (s :: P) x := by
  rw [wr1_cons]
  by_cases e : x = s.x ∧ s.wr = true
  · rw [if_pos e]
    rcases h with h | h
    · rw [h] at e; cases e.2
    · rw [← e.1] at h
      cases hP : wr1 P x with
      | none => rw [hP] at h; cases h
      | some u => rfl
  · rw [if_neg e]; simp
theorem wr1_step_yes {s : Sp} {P : List Sp} (hw : s.wr = true) (h : wr1 P s.x = none) (x : Int) : (if x = s.x then some s else wr1 P x) = wr1 (s :: P) x := by
  rw [wr1_cons]
  by_cases e : x = s.x
  · subst e; rw [if_pos rfl, if_pos ⟨rfl, hw⟩, h]; rfl
  · rw [if_neg e, if_neg (fun h => e h.1)]; simp
set_option maxRecDepth 100000 in
set_option maxHeartbeats 4000000 in
theorem writes_any (A : Option Addr) (c : Nat) (L : List Sp) (w : World) (h : VarsAt w A L) (hl : L.length ≤ 300) :
    Calls Tryz.prog 70 #[.slice A L.length c] w (SlPost (writesL L) w) := by
  obtain ⟨zs, rfl⟩ := ok_list h.ok
  have hA0 := h.low
  rw [List.length_map] at hl hA0 ⊢
  have HZ := Lib.hid h
  clear h
  have HW0 := mapW_start w A zs.length c
  have HS0 := mapW_size w A zs.length c
  have HX0 := mapW_box w A zs.length c
  have hmm := @run_makeMap Tryz.prog
  refine (callsIn_wide (n := 5)).1 ?_
  refine callsIn_of_wp_marks Tryz.func70 rfl trivial ?_ rfl
  simp only [Tryz.ntmps70, List.size_toArray, List.length_cons, List.length_nil, Nat.reduceAdd, Nat.reduceSub, Array.replicate_succ, Array.replicate_zero, List.push_toArray, List.append_toArray, List.nil_append, List.cons_append]
  gi_wp2_with (refine ⟨trivial, ?_⟩; gi_at_call 106; refine (callsIn_wide.2 (backward_any _ _ _ _)).mono ?_; rintro e w' ⟨rfl, rfl⟩)
  unfold mapW at HW0 HS0 HX0
  generalize (((w.alloc (.map #[] 0)).alloc (.cells #[.map (some w.heap.size)] 203)).alloc (.cells #[.slice A zs.length c] 113)) = W0 at HW0 HS0 HX0 ⊢
  clear hmm
  refine wpIn_rangeFunc_ownH rfl (by decide) (gf := 144) (lb := #[.pointer (some ⟨w.heap.size + 1 + 1, 0, none⟩)]) rfl trivial (enters_of Tryz.func144 (by kernel_rfl) rfl)
    (back_stops 4 (by decide) (w.heap.size + 1 + 1) w.heap.size c A zs (by omega) W0 (HX0.cell 0) (HZ.out.below HW0.bel (Nat.le_refl _)) hA0) kpB_t (kpB_b (by omega) (by omega)) (Below.refl _ _) (fun _ => rfl)
    (fun pre W => MapI w pre.length (wr1 (came pre)) W) (fun _ _ _ => False)
    (fun _ _ _ _ hs hg hr => hs.grown (by omega) hg hr) (fun _ _ _ _ _ hs _ _ => hs) HW0
    (fun y a' W => ∃ Bx, w.heap.size + 1 + 1 < Bx ∧ Blk W Bx (stepA y.2.1) 76 ∧ a' = { tmps := #[.slice A zs.length c, undef, .slice none 0 0, .pointer (some ⟨w.heap.size + 1, 0, none⟩), undef, .pointer (some ⟨Bx, 0, none⟩), undef, undef, .map (some w.heap.size), .slice A zs.length c, .func (.func 144) #[] #[.pointer (some ⟨w.heap.size + 1 + 1, 0, none⟩)], .int .i64 ((y.1 : Nat) : Int), .agg (stepA y.2.1), undef, undef, undef, undef, undef, undef, undef, undef, undef, undef, undef, undef, undef, undef, undef, undef, undef, undef, undef], defers := [] })
    (fun y a' => fun _ X Y row hs hg hr => by obtain ⟨Bx, h1, h2, h3⟩ := hs; exact ⟨Bx, h1, h2.kept hg hr, h3⟩) ?assign ?body ?done ?stop
  case assign =>
    rintro l pre y W K hi hK
    simp only [stepA] at hK ⊢
    gi_wp2
    exact hK _ _ ((KeepsOthers.alloc _ _).from _) ((kpB_refl _ _ _).alloc hi.bel.size hi.sz _) (hi.alloc _) ⟨W.heap.size, hi.sz, Blk.new _ _ _, rfl⟩
  case body =>
    rintro l pre y a' W hl' ⟨r, hr⟩ hi ⟨Bx, hBx, hX, rfl⟩ hlt
    obtain ⟨j, s, hok⟩ := y
    simp only [stepA] at hX ⊢
    have x0 := hX.cell 0
    have x1 := hX.cell 1
    have x2 := hX.cell 2
    have x3 := hX.cell 3
    simp only [List.getElem?_toArray, List.getElem?_cons_succ, List.getElem?_cons_zero] at x0 x1 x2 x3
    have b0 := hi.box.cell 0
    simp only [List.getElem?_toArray, List.getElem?_cons_zero] at b0
    have hlk := hi.map.look hok.1
    generalize hfo : wr1 (came pre) s.x = fo at hlk
    generalize hfv : fo.getD zero = fv at hlk
    unfold stepA at hlk
    have hi2 := hi.alloc (.cells #[.int .i64 fv.x, .int .i64 fv.k, .int .i64 fv.n, .bool fv.wr] 76)
    have hX2 := hX.alloc (.cells #[.int .i64 fv.x, .int .i64 fv.k, .int .i64 fv.n, .bool fv.wr] 76)
    have HK2 := Lib.hid ((kpB_refl w.heap.size (w.heap.size + 1 + 1) W).alloc hi.bel.size hi.sz (.cells #[.int .i64 fv.x, .int .i64 fv.k, .int .i64 fv.n, .bool fv.wr] 76))
    have y0 := hX2.cell 0
    have y1 := hX2.cell 1
    have y2 := hX2.cell 2
    have y3 := hX2.cell 3
    simp only [List.getElem?_toArray, List.getElem?_cons_succ, List.getElem?_cons_zero] at y0 y1 y2 y3
    have b1 := hi2.box.cell 0
    simp only [List.getElem?_toArray, List.getElem?_cons_zero] at b1
    have HI := Lib.hid hi
    have HI2 := Lib.hid hi2
    clear hi hi2 hX hX2 hfv
    cases hw : s.wr with
    | false =>
      rw [hw] at x3 y3
      gi_wp2
      exact ⟨(KeepsOthers.alloc _ _).from _, HK2.out, by show MapI w (pre ++ [_]).length (wr1 (came _)) _; rw [came_snoc, List.length_append]; exact HI2.out.same (wr1_step_no (.inl hw)) (Nat.le_succ _)⟩
    | true =>
      rw [hw] at x3 y3
      cases fo with
      | some u =>
        simp only [Option.isSome_some] at hlk
        gi_wp2
        exact ⟨(KeepsOthers.alloc _ _).from _, HK2.out, by show MapI w (pre ++ [_]).length (wr1 (came _)) _; rw [came_snoc, List.length_append]; exact HI2.out.same (wr1_step_no (.inr (by rw [hfo]; rfl))) (Nat.le_succ _)⟩
      | none =>
        simp only [Option.isSome_none] at hlk
        have hE : Value.agg (stepA s) = .agg #[.int .i64 s.x, .int .i64 s.k, .int .i64 s.n, .bool true] := by simp [stepA, hw]
        obtain ⟨sz, hm⟩ := HI2.out.map
        have HM := Lib.hid hm
        clear hm
        gi_wp2_with (gi_at_mapUpdate; refine wpListIn_putM rfl _ _ _ 203 76 rfl Tryz.underlying203 w.heap.size pre.length sz zeroS _ rfl HM.out (by omega) s.x (.agg (stepA s)) rfl hE.symm hok.1 ?_; intro w1 hm1 hg1)
        have hn := HI2.out.put hok hm1 hg1
        exact ⟨((KeepsOthers.alloc _ _).from _).trans (KeepsFrom.of_grownBy hg1 (fun j e => by cases e; omega)), kpB_t HK2.out (HI2.out.kp hg1), by show MapI w (pre ++ [_]).length (wr1 (came _)) _; rw [came_snoc, List.length_append]; exact hn.same (wr1_step_yes hw hfo) (Nat.le_refl _)⟩
  case done =>
    rintro D ys W hD hys hi hK
    have b0 := hi.box.cell 0
    simp only [List.getElem?_toArray, List.getElem?_cons_zero] at b0
    rw [came_all hys] at hi
    gi_wp2_with (refine ⟨trivial, ?_⟩; gi_at_call 112; refine (callsIn_wide.2 (rising_any _ _ _ _ hi.map hi.ok)).mono ?_; rintro e w1 ⟨T, d, rfl, hv, hb, hfr⟩)
    have hK' : w1.heap[D]? = some (.deferred (some [])) := (hb.block D (Array.getElem?_eq_some_iff.1 hK).1).trans hK
    refine ⟨by simp, .inl ⟨_, _, rfl, run_takeDeferred hK', ?_⟩⟩
    exact ⟨_, results_tmp rfl _ _ _, T, d, rfl, ⟨hv.at_.put hK' rfl _, hv.le, hv.max⟩, (hi.bel.trans (hb.mono hi.bel.size)).trans (belowK_b (n₀ := w.heap.size) (w := W0) (by omega) _ D _ _ hD hK' rfl rfl), hfr.mono hi.bel.size⟩
  case stop =>
    rintro D c' pre W hD hpre hx hK
    exact hx.elim
end Go.Proofs.YtfdfiiocccafkaaGreatDoor.Tx
