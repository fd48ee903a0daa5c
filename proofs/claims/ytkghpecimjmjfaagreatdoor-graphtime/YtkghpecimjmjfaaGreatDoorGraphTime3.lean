/-
  The walk of GraphTime: what the loop over the entries keeps.
-/
import Derived.Test.YtkghpecimjmjfaaGreatDoorGraphTime2
namespace Go.Proofs.YtkghpecimjmjfaaGreatDoor.En
open Go.RowKit
attribute [local go_sem ↓] Go.wp_at_zero Go.wp_at_succ
structure TSt (w W7 : World) (b m1 m2 k : Nat) (g : Eng) (f bg : Int → Nat) (wr : World) : Prop where
  lv : Live w (PM m1 m2) b (k + 1) ((k : Nat) + 1) g wr
  me : ∃ sz, TMap wr m1 (cnt f 200) sz f
  mb : TMap wr m2 (k + 1) g.p.count.toNat bg
  kp : Kp (fun q => q = m1) W7 wr
section
variable {w W7 W W' : World} {b m1 m2 k : Nat} {g : Eng} {f bg : Int → Nat}
theorem TSt.below (h : TSt w W7 b m1 m2 k g f bg W) (hb : Below W.heap.size W W') : TSt w W7 b m1 m2 k g f bg W' := by
  obtain ⟨sz, hm⟩ := h.me
  exact ⟨h.lv.below hb, ⟨sz, hm.below hb⟩, h.mb.below hb, h.kp.below hb⟩
theorem TSt.put (h : TSt w W7 b m1 m2 k g f bg W) (hw : w.heap.size ≤ m1) (hne : m2 ≠ m1) {id : Int} (h0 : f id = 0) (hid : 1 ≤ id ∧ id < 200) {n' sz' : Nat} (hn : n' = cnt f 200 + 1) (hm : Tx.MapV W' m1 n' sz' (.int .i64 0) (fun y => if y = id then some (.int .i64 ((k + 1 : Nat) : Int)) else mapF f y)) (hg : W.grownBy W' (some m1)) : TSt w W7 b m1 m2 k g (fu f id (k + 1)) bg W' := by
  obtain ⟨sz, hme⟩ := h.me
  obtain ⟨es, ck, ho⟩ := hme.obj
  have hk := kp_grown hg
  have hm2 := TMap.put (Nat.succ_pos k) hm
  rw [hn, ← cnt_put (Nat.succ_pos k) h0 (by omega) 200 (by omega)] at hm2
  refine ⟨h.lv.dry (.inl rfl) hw (dry_map ho) hk, ⟨_, hm2⟩, h.mb.other (hk.block m2 h.mb.lt hne), ?_⟩
  exact h.kp.trans hk
end
def TkRel (w W7 : World) (b m1 m2 k : Nat) (g : Eng) (E : List Ent) (en bg : Int → Nat) (i : Value) (wr : World) : Prop :=
  ∃ j : Nat, j ≤ E.length ∧ i = .int .i64 j ∧ TSt w W7 b m1 m2 k g (enL (k + 1) en (E.take j)) bg wr
theorem OwnX.cap {w : World} {base n c : Nat} {A : Option Addr} {X : List Xe} (h : OwnX w base (.slice A n c) X) : n ≤ c := by
  rcases h.2 with ⟨e, h0⟩ | ⟨g, cap, cur, e, hb, hg, hn, hm, hs, ht⟩
  · obtain ⟨_, e2, e3⟩ := Value.slice.inj e
    omega
  · obtain ⟨_, e2, e3⟩ := Value.slice.inj e
    omega
def Ta1Rel (L : Nat) (W : World) (i : Value) (wr : World) : Prop := ∃ j : Nat, j ≤ L ∧ i = .int .i64 j ∧ Below W.heap.size W wr
end Go.Proofs.YtkghpecimjmjfaaGreatDoor.En
