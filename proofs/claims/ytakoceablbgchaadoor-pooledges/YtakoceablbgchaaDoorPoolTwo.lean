/-
  Two pools laid into two new variables; a pool's numbers; the first slot that is free.
-/
import Derived.Test.YtakoceablbgchaaDoorPoolTime
namespace Go.Proofs.YtakoceablbgchaaDoor
open Go.RowKit
theorem wpList_letPP {ops : Array Oper} {rest : List Oper} {o1 o2 : Oper} {a : Act} {V : World} {Q : Exit → Act → World → Prop} (hg1 : o1.guard = none) (hg2 : o2.guard = none) (t u : Nat) (x1 y1 x2 y2 : Operand)
    (ho1 : o1.op = .store t x1 y1) (ho2 : o2.op = .store u x2 y2) (hd1 : o1.dst = none) (hd2 : o2.dst = none) (W : World) (p q : Pl) (hV : V = (W.alloc (.cells (poolA zeroP) t)).alloc (.cells (poolA zeroP) u)) (hx1 : a.eval x1 = .pointer (some ⟨W.heap.size, 0, none⟩)) (hy1 : a.eval y1 = .agg (poolA p)) (hx2 : a.eval x2 = .pointer (some ⟨W.heap.size + 1, 0, none⟩)) (hy2 : a.eval y2 = .agg (poolA q))
    (hi1 : (Tryd.prog.info? t).map (·.size) = some 100) (hi2 : (Tryd.prog.info? u).map (·.size) = some 100)
    (h : ∀ W', PoolAt W' W.heap.size p t → PoolAt W' (W.heap.size + 1) q u → Below W.heap.size W W' → wpList Tryd.prog ops Q rest a W') : wpList Tryd.prog ops Q (o1 :: o2 :: rest) a V := by
  subst hV
  have h1 : PoolAt ((W.alloc (.cells (poolA zeroP) t)).alloc (.cells (poolA zeroP) u)) W.heap.size zeroP t := (poolAt_new W zeroP t).alloc _
  have h2 : PoolAt ((W.alloc (.cells (poolA zeroP) t)).alloc (.cells (poolA zeroP) u)) (W.heap.size + 1) zeroP u := by have := poolAt_new (W.alloc (.cells (poolA zeroP) t)) zeroP u; simpa using this
  have hb : Below W.heap.size W ((W.alloc (.cells (poolA zeroP) t)).alloc (.cells (poolA zeroP) u)) := ((Below.refl _ _).alloc (Nat.le_refl _) _).alloc (by simp) _
  refine store_pool hg1 t x1 y1 ho1 hd1 W.heap.size zeroP p t hx1 hy1 h1 hi1 ?_
  refine store_pool hg2 u x2 y2 ho2 hd2 (W.heap.size + 1) zeroP q u hx2 hy2 (h2.setRow _ (by omega)) hi2 ?_
  exact h _ ((poolAt_put h1).setRow _ (by omega)) (poolAt_put (h2.setRow _ (by omega))) (setRow_below (setRow_below hb (Nat.le_refl _)) (by omega))
namespace Po
/-- who counts one more has begun. -/
theorem act_more {p : Pl} (h : Sound p) (x : Act) (hc : (act p x).count ≠ p.count) : ∃ s, ff p = some s ∧ act p x = begun p s := by
  unfold act at hc ⊢
  split at hc
  · exact absurd (edge_count p x.a x.b).1 hc
  split at hc
  · exact absurd (end_count p x.a).1 hc
  split at hc
  · exact absurd (collect_keeps p h.done64).2.2 hc
  · rename_i h1 h2 h3
    rw [if_neg h1, if_neg h2, if_neg h3]
    unfold begin at hc ⊢
    cases hf : ff p with
    | none => rw [hf] at hc; exact absurd rfl hc
    | some s => exact ⟨s, rfl, rfl⟩
/-- the slots that are free, as a set. -/
theorem free_test {p : Pl} (h : Sound p) (n : Nat) (hn : p.size = (n : Int)) (j : Nat) (hj : j < 64) : ((2 ^ n - 1) &&& (18446744073709551615 - (p.live ||| p.done))).testBit j = freeAt p j := by
  have hlt : p.live ||| p.done < 18446744073709551616 := Nat.or_lt_two_pow (n := 64) h.live64 h.done64
  have h2 : (18446744073709551615 - (p.live ||| p.done)).testBit j = !(p.live ||| p.done).testBit j := by
    have := Nat.testBit_two_pow_sub_succ (n := 64) hlt j
    rw [show (2 : Nat) ^ 64 - ((p.live ||| p.done) + 1) = 18446744073709551615 - (p.live ||| p.done) by omega] at this
    rw [this, decide_eq_true hj, Bool.true_and]
  rw [Nat.testBit_and, Nat.testBit_two_pow_sub_one, h2]
  unfold freeAt
  rw [hn]
  congr 1
  rw [Bool.eq_iff_iff, decide_eq_true_eq, decide_eq_true_eq]
  omega
theorem free_first {p : Pl} (h : Sound p) (n : Nat) (hn : p.size = (n : Int)) {s : Nat} (hs : ff p = some s) :
    ((2 ^ n - 1) &&& (18446744073709551615 - (p.live ||| p.done))) ≠ 0 ∧ Sm.first ((2 ^ n - 1) &&& (18446744073709551615 - (p.live ||| p.done))) = s := by
  obtain ⟨h1, h2, h3⟩ := ff_spec hs
  have hlt : (2 ^ n - 1) &&& (18446744073709551615 - (p.live ||| p.done)) < 18446744073709551616 := Nat.lt_of_le_of_lt Nat.and_le_right (by omega)
  have hb := free_test h n hn s (by omega)
  rw [h2] at hb
  have hne : ((2 ^ n - 1) &&& (18446744073709551615 - (p.live ||| p.done))) ≠ 0 := fun e => by rw [e] at hb; simp at hb
  refine ⟨hne, ?_⟩
  obtain ⟨f1, f2, f3⟩ := Sm.first_spec hne hlt
  rw [free_test h n hn _ f1] at f2
  rcases Nat.lt_trichotomy (Sm.first ((2 ^ n - 1) &&& (18446744073709551615 - (p.live ||| p.done)))) s with hl | hl | hl
  · rw [h3 _ hl] at f2; cases f2
  · exact hl
  · have := f3 s hl
    rw [hb] at this; cases this
end Po
end Go.Proofs.YtakoceablbgchaaDoor
