/-
  Rows of acts in memory; a pool that is run by them.
-/
import Derived.Test.YtakoceablbgchaaDoorPoolAlive
import Derived.Test.YtakoceablbgchaaDoorPoolMath2
namespace Go.Proofs.YtakoceablbgchaaDoor
open Go.RowKit
def i64p (z : Int) : Prop := -9223372036854775808 ≤ z ∧ z ≤ 9223372036854775807
/-- a slice reads as these acts. -/
def ActsAt (w : World) (A : Option Addr) (n c : Nat) (l : Nat → Po.Act) : Prop :=
  n ≤ c ∧ c ≤ maxLen ∧ (0 < n → ∃ ad, A = some ad ∧ ∀ i, i < n → w.cell? (ad.add (i * 3)) = some (.int .u8 ((l i).kind : Nat)) ∧ w.cell? (ad.add (i * 3 + 1)) = some (.int .i64 (l i).a) ∧ w.cell? (ad.add (i * 3 + 2)) = some (.int .i64 (l i).b) ∧ (l i).kind < 256 ∧ i64p (l i).a ∧ i64p (l i).b)
theorem act_second {W : World} {ad : Addr} {k : Nat} {v : Value} (h : W.cell? (ad.add (k * 3 + 1)) = some v) : W.cell? ⟨(ad.add (k * 3)).block, (ad.add (k * 3)).off + 1, none⟩ = some v := by
  rw [← Addr.add_add, Addr.add_succ' _ 0] at h
  exact h
theorem act_third {W : World} {ad : Addr} {k : Nat} {v : Value} (h : W.cell? (ad.add (k * 3 + 2)) = some v) : W.cell? ⟨(ad.add (k * 3)).block, (ad.add (k * 3)).off + 2, none⟩ = some v := by
  rw [← Addr.add_add, Addr.add_succ' _ 1] at h
  exact h
theorem cell_keep {W W' : World} {B : Nat} {p : Addr} {v : Value} (h : W.cell? p = some v) (hb : Below B W W') (hB : W.heap.size ≤ B) : W'.cell? p = some v := (hb.cell (Nat.lt_of_lt_of_le (cell_lt h) hB)).trans h
/-- the pool behind the first k acts lies in its variable. -/
structure RunSt (n : Int) (l : Nat → Po.Act) (g k : Nat) (w W : World) : Prop where
  po : PoolAt W g (Po.run n l k) 31
  ge : w.heap.size ≤ g
  bel : Below w.heap.size w W
theorem RunSt.below {n : Int} {l : Nat → Po.Act} {g k : Nat} {w W W' : World} (h : RunSt n l g k w W) (hb : Below W.heap.size W W') : RunSt n l g k w W' := ⟨h.po.below hb, h.ge, h.bel.trans (hb.mono h.bel.size)⟩
def ActRel (n : Int) (l : Nat → Po.Act) (N g : Nat) (w : World) (i : Value) (wr : World) : Prop := ∃ k : Nat, k ≤ N ∧ i = .int .i64 k ∧ RunSt n l g k w wr
theorem zero_okP : zeroP.Ok := ⟨by decide, zero_ok, fun _ _ => by simp [zeroP, zeroO], by decide, by decide, fun _ _ => by simp [zeroP, zeroO], by decide⟩
theorem run_ok {n : Int} (hn : 1 ≤ n ∧ n ≤ 32) (l : Nat → Po.Act) {k : Nat} (hk : k ≤ 120) : (Po.run n l k).Ok := (Po.run_sound hn l k).ok (by have := (Po.run_count hn l k).1; omega)
theorem run_ask {n : Int} (hn : 1 ≤ n ∧ n ≤ 32) (l : Nat → Po.Act) {k : Nat} (hk : k ≤ 120) {x : Po.Act} (hx : x.kind < 256) (ha : i64p x.a) (hb : i64p x.b) {W : World} (hT : TabAt W) : DAsk (Po.run n l k) zeroP x W :=
  ⟨run_ok hn l hk, zero_okP, by have := (Po.run_count hn l k).1; omega, by decide, by decide, by decide, ha, hb, hx, .inr rfl, hT⟩
theorem run_next {n : Int} {l : Nat → Po.Act} {k : Nat} {x : Po.Act} (h : l k = x) : Po.act (Po.run n l k) x = Po.run n l (k + 1) := by rw [← h]; rfl
theorem u8_mod (s : Nat) (hs : s < 256) : ∃ r : Nat, ((s : Nat) : Int).tmod 32 = (r : Int) ∧ r < 32 := ⟨s % 32, by rw [Int.tmod_eq_emod_of_nonneg (by omega)]; omega, Nat.mod_lt _ (by decide)⟩
theorem build_zeroM (w : World) : (Instr.build 27 #[]).run Tryd.prog w = .ok (.agg (matA zeroM)) w := by
  have hz : (Tryd.prog.info? 27).map (fun i => (i.zero, i.size)) = some (some (.agg (matA zeroM)), 32) := by kernel_rfl
  have h0 := (zero_of_info hz).1
  unfold Instr.build
  have hc : (Value.agg (matA zeroM)).cells = matA zeroM := rfl
  simp [Sem.run_bind, h0, run_underlying Tryd.underlying27, Instr.fill, hc]
theorem guard_mat : Tryd.prog.eqGuardType Tryd.prog.depth 27 = false := by kernel_rfl
end Go.Proofs.YtakoceablbgchaaDoor
