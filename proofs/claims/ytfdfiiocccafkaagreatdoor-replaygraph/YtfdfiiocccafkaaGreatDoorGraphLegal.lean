/-
  The walk of GraphLegal.
-/
import Derived.Test.YtfdfiiocccafkaaGreatDoorGraphRefuses
namespace Go.Proofs.YtfdfiiocccafkaaGreatDoor.En
open Go.RowKit
attribute [local go_sem ↓] Go.wp_at_zero Go.wp_at_succ
theorem build_one (w : World) : (Instr.build 71 #[(0, .int .i64 1)]).run Tryz.prog w = .ok (.agg #[.int .i64 1, .int .i64 0]) w := by
  have hz := (zero_of_info val_info0).1
  have h2 := fun w => sz w (show (Tryz.prog.info? 2).map (·.size) = some 1 by kernel_rfl)
  have h3 := fun w => sz w inf_int
  unfold Instr.build
  simp only [Sem.run_bind, hz, run_underlying Tryz.underlying71, Result.andThen_ok]
  simp [h2, h3, Instr.fill, Value.cells]
/-- values, of which the first so many are nought. -/
def onesTo (n k : Nat) : List (Int × Int) := List.replicate k (1, 0) ++ List.replicate (n - k) (0, 0)
theorem onesTo_at {n k : Nat} (h : k < n) : (onesTo n k)[k]? = some (0, 0) := by
  unfold onesTo
  rw [List.getElem?_append_right (by simp), List.length_replicate, Nat.sub_self, List.getElem?_replicate, if_pos (by omega)]
theorem onesTo_set {n k : Nat} (h : k < n) : (onesTo n k).set k (1, 0) = onesTo n (k + 1) := by
  unfold onesTo
  have e : n - k = (n - (k + 1)) + 1 := by omega
  rw [List.set_append_right _ _ (by simp), List.length_replicate, Nat.sub_self, e, List.replicate_succ, List.set_cons_zero, List.replicate_succ', List.append_assoc]
  rfl
theorem onesTo_all (n : Nat) : onesTo n n = start n := by unfold onesTo start; simp
def OnRel (n m : Nat) (w : World) (i : Value) (wr : World) : Prop := ∃ k : Nat, k ≤ n ∧ i = .int .i64 k ∧ Sx.ValsAt wr w.heap.size m n (onesTo n k) ∧ Below w.heap.size w wr
/-- the values of now in their row; all else since is as it was. -/
structure LgSt (w2 W0 : World) (n m : Nat) (now : Now) (wr : World) : Prop where
  va : Sx.ValsAt wr m m n now
  kp : Kp (fun q => q = m) W0 wr
  bel : Below w2.heap.size w2 wr
section
variable {w2 W0 W W' : World} {n m : Nat} {now : Now}
theorem LgSt.below (h : LgSt w2 W0 n m now W) (hb : Below W.heap.size W W') : LgSt w2 W0 n m now W' := ⟨h.va.below hb (Nat.le_refl _), h.kp.below hb, h.bel.trans (hb.mono h.bel.size)⟩
theorem LgSt.put (h : LgSt w2 W0 n m now W) (hm : w2.heap.size ≤ m) {x : Nat} {u v : Int × Int} (hx : now[x]? = some u) : LgSt w2 W0 n m (now.set x v) ((W.setCell ⟨m, x * 2, none⟩ (.int .i64 v.1)).setCell ⟨m, x * 2 + 1, none⟩ (.int .i64 v.2)) := by
  have hl := (List.getElem?_eq_some_iff.1 hx).1
  have h1 := h.va.put hx (v' := (v.1, u.2)) 0 (by decide) (.int .i64 v.1) rfl
  have h2 := h1.put (j := x) (v := (v.1, u.2)) (v' := v) (List.getElem?_set_self hl) 1 (by decide) (.int .i64 v.2) rfl
  rw [List.set_set] at h2
  exact ⟨h2, (h.kp.setCell (p := ⟨m, x * 2, none⟩) (.inl rfl) _).setCell (p := ⟨m, x * 2 + 1, none⟩) (.inl rfl) _, (h.bel.setCell (p := ⟨m, x * 2, none⟩) hm _).setCell (p := ⟨m, x * 2 + 1, none⟩) hm _⟩
end
/-- what is known of the entries in the row. -/
structure Row (W0 : World) (n m base : Nat) (v : Value) (X : List Xe) : Prop where
  own : OwnX W0 base v X
  mb : m < base
  ent : ∀ x ∈ X, EntAt (fun k => k < base) W0 x
  ok : ∀ x ∈ X, EntOk n x.1
def LgRel (w2 W0 : World) (n m : Nat) (E : List Ent) (out : Now) (i : Value) (wr : World) : Prop :=
  ∃ (k : Nat) (now : Now), k ≤ E.length ∧ i = .int .i64 k ∧ now.length = n ∧ LgSt w2 W0 n m now wr ∧ Rep now (E.drop k) out
def LrRel (w2 W0 : World) (n m : Nat) (now : Now) (L y : Nat) (cs : Array Value) (i : Value) (wr : World) : Prop :=
  ∃ j : Nat, j ≤ L ∧ i = .int .i64 j ∧ LgSt w2 W0 n m now wr ∧ Tx.Blk wr y cs 79
def LwRel (w2 W0 : World) (n m : Nat) (now : Now) (ws : List Tx.Sp) (y : Nat) (cs : Array Value) (i : Value) (wr : World) : Prop :=
  ∃ j : Nat, j ≤ ws.length ∧ i = .int .i64 j ∧ LgSt w2 W0 n m (sets now (ws.take j)) wr ∧ Tx.Blk wr y cs 79
def LvRel (w2 W0 : World) (n m : Nat) (now L : Now) (base q : Nat) (i : Value) (wr : World) : Prop :=
  ∃ z : Nat, z ≤ n ∧ i = .int .i64 z ∧ LgSt w2 W0 n m now wr ∧ Sx.ValsAt wr base q n L
theorem sets_len : ∀ (l : List Tx.Sp) (now : Now), (sets now l).length = now.length
  | [], _ => rfl
  | w :: l, now => by show (sets (now.set w.x.toNat (w.k, w.n)) l).length = _; rw [sets_len l, List.length_set]
theorem sets_snoc {ws : List Tx.Sp} {j : Nat} {s : Tx.Sp} (h : ws[j]? = some s) (now : Now) : sets now (ws.take (j + 1)) = (sets now (ws.take j)).set s.x.toNat (s.k, s.n) := by
  unfold sets
  rw [St.take_step h, List.foldl_append]; rfl
theorem row_cell {W0 wr : World} {n m base : Nat} {v : Value} {X : List Xe} (h : Row W0 n m base v X) (hk : Kp (fun q => q = m) W0 wr) {j : Nat} {x : Xe} (hx : X[j]? = some x) : ∃ q c, v = .slice (some ⟨q, 0, none⟩) X.length c ∧ wr.cell? ⟨q, j * 5, none⟩ = some (.int .i64 x.1.id) ∧ wr.cell? ⟨q, j * 5 + 1, none⟩ = some (.bool x.1.com) ∧ wr.cell? ⟨q, j * 5 + 2, none⟩ = some (.bool x.1.ovr) ∧ wr.cell? ⟨q, j * 5 + 3, none⟩ = some x.2.1 ∧ wr.cell? ⟨q, j * 5 + 4, none⟩ = some x.2.2 :=
  xs_cell h.own ⟨hk.size, fun k e => hk.block k (World.ownsRow.lt h.own k e).2 (fun e2 => by have := (World.ownsRow.lt h.own k e).1; have := h.mb; omega)⟩ hx
end Go.Proofs.YtfdfiiocccafkaaGreatDoor.En
