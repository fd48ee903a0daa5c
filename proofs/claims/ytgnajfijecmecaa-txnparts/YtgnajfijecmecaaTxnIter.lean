/-
  The library's iterator over a slice from behind: its contract.
-/
import Derived.Test.YtgnajfijecmecaaTxnBackw
import Derived.RangeFuncNested
import Derived.RangeFuncBound
import Derived.RangeFuncCalls
import Derived.RangeFuncLeaves
import Derived.Shelf.Abstract
import Derived.Shelf.RegionOpen
import Derived.OwnWalkIn
import Derived.TacticsInMore
import Derived.LoopNIn
import Derived.LoopIn
namespace Go.Proofs.Ytgnajfijecmecaa.Tx
open Go.RowKit Go.Shelf
attribute [local go_sem] Oper.semAt_some
/-- a step that fits. -/
abbrev OkSp := { s : Sp // s.ok }
/-- what a round that goes on keeps: all that lay below n₀, and the box of the slice. -/
def KpB (n₀ Bs : Nat) (A B : World) : Prop := Below n₀ A B ∧ B.heap[Bs]? = A.heap[Bs]?
theorem kpB_t {n₀ Bs : Nat} {A B C : World} (h : KpB n₀ Bs A B) (k : KpB n₀ Bs B C) : KpB n₀ Bs A C := ⟨h.1.trans k.1, k.2.trans h.2⟩
theorem kpB_b {n₀ Bs : Nat} {w : World} (hn : n₀ ≤ w.heap.size) (hB : Bs < w.heap.size) (W : World) (l : Nat) (o o' : Obj) (hl : w.heap.size ≤ l) (h : W.heap[l]? = some o) (h1 : o.isCells = false) (h2 : o.isWalk = false) : KpB n₀ Bs W (W.putObj l o') :=
  ⟨belowK_b hn W l o o' hl h h1 h2, World.putObj_heap_other (by omega)⟩
theorem kpB_refl (n₀ Bs : Nat) (A : World) : KpB n₀ Bs A A := ⟨Below.refl _ _, rfl⟩
theorem KpB.set {n₀ Bs : Nat} {A B : World} (h : KpB n₀ Bs A B) {b : Nat} (hn : n₀ ≤ b) (hB : b ≠ Bs) (i : Nat) (v : Value) : KpB n₀ Bs A (B.setCell ⟨b, i, none⟩ v) :=
  ⟨h.1.setCell (p := ⟨b, i, none⟩) hn v, (Below.heap_setCell _ _ _ Bs (fun e => hB e.symm)).trans h.2⟩
theorem KpB.alloc {n₀ Bs : Nat} {A B : World} (h : KpB n₀ Bs A B) (hn : n₀ ≤ B.heap.size) (hB : Bs < B.heap.size) (o : Obj) : KpB n₀ Bs A (B.alloc o) :=
  ⟨h.1.alloc hn o, (Below.heap_alloc B o Bs hB).trans h.2⟩
set_option maxHeartbeats 1000000 in
theorem backward_any (A : Option Addr) (n c : Nat) (w : World) :
    Calls Try.prog 21 #[.slice A n c] w fun e w' => e = .returned (.func (.func 25) #[] #[.pointer (some ⟨w.heap.size, 0, none⟩)]) ∧ w' = w.alloc (.cells #[.slice A n c] 29) := by
  go_enter Try.func21, Try.ntmps21
  go_wp2
  go_ret
  exact ⟨rfl, rfl⟩
set_option maxRecDepth 100000 in
set_option maxHeartbeats 2000000 in
theorem back1_in (n : Nat) (hn : 1 ≤ n) (l Bs n₀ c : Nat) (A : Option Addr) (zs : List OkSp) (hl : zs.length ≤ 400) (J Jx : List (Nat × OkSp) → World → Prop)
    (hY : ∀ pre x W, J pre W → pre.length < zs.length → YieldAt Fence.wide (n - 1) Try.prog l #[.int .i64 ((x.1 : Nat) : Int), .agg (stepA x.2.1)] W fun e W' =>
      (e = .returned (.bool true) ∧ J (pre ++ [x]) W' ∧ KpB n₀ Bs W W') ∨ (e = .returned (.bool false) ∧ Jx (pre ++ [x]) W'))
    (W : World) (hBs : W.cell? ⟨Bs, 0, none⟩ = some (.slice A zs.length c)) (hA : VarsAt W A (zs.map (·.1))) (hA0 : ∀ ad, A = some ad → 0 < zs.length → ad.block < n₀) (h0 : J [] W) :
    CallsIn Fence.wide n Try.prog 25 #[.func (.yield l) #[] #[], .pointer (some ⟨Bs, 0, none⟩)] W fun e W' => (∃ v, e = .returned v) ∧
      ((∃ ys, ys.map Prod.snd = zs.reverse ∧ J ys W') ∨ (∃ pre, pre.map Prod.snd <+: zs.reverse ∧ Jx pre W')) := by
  have hN : (zs.length : Int) ≤ 400 := by omega
  have hs : wrap64 ((zs.length : Int) - 1) = (zs.length : Int) - 1 := by unfold wrap64; omega
  refine callsIn_of_wp Try.func25 rfl trivial ?_ rfl
  simp only [Try.ntmps25, List.size_toArray, List.length_cons, List.length_nil, Nat.reduceAdd, Nat.reduceSub, Array.replicate_succ, Array.replicate_zero, List.push_toArray, List.append_toArray, List.nil_append, List.cons_append]
  gi_wp2
  gi_loopw [3] (fun i wr => ∃ m : Nat, m ≤ zs.length ∧ i = .int .i64 ((m : Int) - 1) ∧ ∃ pre, pre.map Prod.snd = zs.reverse.take (zs.length - m) ∧ J pre wr ∧ KpB n₀ Bs W wr)
    (fun i _ => (intOf i + 1).toNat)
  case atStart => exact ⟨zs.length, Nat.le_refl _, rfl, [], by simp, h0, kpB_refl _ _ _⟩
  case round =>
    obtain ⟨m, hm, rfl, pre, hpre, hJ, hk⟩ := hrel
    have hlen : pre.length = zs.length - m := by
      have := congrArg List.length hpre
      simp at this
      omega
    rcases m with _ | m
    · have hneg : ¬ (((0 : Nat) : Int) - 1 ≥ 0) := by omega
      have hn1 : ((0 : Nat) : Int) - 1 = -1 := rfl
      rw [hn1] at hneg ⊢
      gi_wp2
      go_end0
      exact ⟨⟨_, rfl⟩, .inl ⟨pre, by rw [hpre, Nat.sub_zero, List.take_of_length_le (by simp)], hJ⟩⟩
    · have hi : (((m + 1 : Nat) : Int) - 1) = (m : Int) := by omega
      rw [hi]
      have hlt : m < zs.length := by omega
      obtain ⟨ad, z, rfl, hz, hzo, _⟩ := hA.at_ (j := m) (by simpa using hlt)
      have hb0 := hA0 ad rfl (by omega)
      have hA2 : VarsAt wr (some ad) (zs.map (·.1)) := ⟨fun hl => by
        obtain ⟨ad', e, hc⟩ := hA.cell hl
        exact ⟨ad', e, fun j u hu => by
          have := hc j u hu
          cases e
          exact (hk.1.cell (by rw [add_block]; exact hb0)).trans this⟩, hA.ok⟩
      obtain ⟨ad', z', e', hz', _, h4⟩ := hA2.at_ (j := m) (by simpa using hlt)
      cases e'
      obtain rfl : z = z' := Option.some.inj (hz.symm.trans hz')
      obtain ⟨c0, c1, c2, c3⟩ := h4
      have hbx : wr.cell? ⟨Bs, 0, none⟩ = some (.slice (some ad) zs.length c) := (World.cell?_of_block (a := ⟨Bs, 0, none⟩) hk.2).trans hBs
      have hzr : zs.reverse[zs.length - (m + 1)]? = some ⟨z, hzo⟩ := by
        rw [List.getElem?_reverse (by omega)]
        have : zs.length - 1 - (zs.length - (m + 1)) = m := by omega
        rw [this]
        rw [List.getElem?_map] at hz
        cases e : zs[m]? with
        | none => rw [e] at hz; cases hz
        | some y => rw [e] at hz; simp at hz; subst hz; rfl
      obtain ⟨fn, tmps, assign, body, hy, hR⟩ := hY pre (m, ⟨z, hzo⟩) wr hJ (by omega)
      dsimp only at hy
      unfold stepA at hy
      have hm400 : (m : Int) ≤ 400 := by omega
      have hpos : (m : Int) ≥ 0 := by omega
      have hltI : (m : Int) < (zs.length : Int) := by omega
      have hsub : wrap64 ((m : Int) - 1) = (m : Int) - 1 := by unfold wrap64; omega
      clear hz hz' hA hA2
      gi_wp2
      refine hR.mono ?_
      rintro e W3 (⟨rfl, hJ3, hk3⟩ | ⟨rfl, hJx3⟩)
      · gi_wp2
        go_roundw
        case rel =>
          refine ⟨m, by omega, rfl, pre ++ [(m, ⟨z, hzo⟩)], ?_, hJ3, kpB_t hk hk3⟩
          rw [List.map_append, hpre]
          have e2 : zs.length - m = (zs.length - (m + 1)) + 1 := by omega
          rw [e2, take_step hzr]
          rfl
        case measure => simp [intOf]
      · gi_wp2
        refine bodyPost_ret (results_none rfl _ _ _) rfl ?_
        refine ⟨⟨_, rfl⟩, .inr ⟨_, ?_, hJx3⟩⟩
        rw [List.map_append, hpre]
        have := take_step hzr
        show zs.reverse.take (zs.length - (m + 1)) ++ [⟨z, hzo⟩] <+: _
        rw [← this]
        exact List.take_prefix _ _
theorem back_stops (n : Nat) (hn : 1 ≤ n) (Bs n₀ c : Nat) (A : Option Addr) (zs : List OkSp) (hl : zs.length ≤ 400) (w : World) (hBs : w.cell? ⟨Bs, 0, none⟩ = some (.slice A zs.length c)) (hA : VarsAt w A (zs.map (·.1))) (hA0 : ∀ ad, A = some ad → 0 < zs.length → ad.block < n₀) :
    SeqStopsK Fence.wide n Try.prog 25 #[.pointer (some ⟨Bs, 0, none⟩)] (fun x : Nat × OkSp => #[.int .i64 ((x.1 : Nat) : Int), .agg (stepA x.2.1)]) (KpB n₀ Bs) (fun ys => ys.map Prod.snd = zs.reverse) (fun pre => pre.map Prod.snd <+: zs.reverse) zs.length w := fun l J Jx W hW _ _ hY h0 =>
  back1_in n hn l Bs n₀ c A zs hl J Jx hY W ((hW.cell (cell_lt hBs)).trans hBs) (hA.below hW (Nat.le_refl _)) hA0 h0
end Go.Proofs.Ytgnajfijecmecaa.Tx
