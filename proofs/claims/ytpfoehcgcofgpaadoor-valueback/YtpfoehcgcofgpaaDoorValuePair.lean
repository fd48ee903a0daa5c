/-
  Two values handed in, laid as both sides hold them; the three functions in a row.
-/
import Derived.Test.YtpfoehcgcofgpaaDoorValueDraw
namespace Go.Proofs.YtpfoehcgcofgpaaDoor
open Go.RowKit
structure Pair (w : World) (ka a kb b : Int) (g1 g2 : Nat) (W : World) : Prop where
  xr : ValAt W w.heap.size 23 ka a
  yr : ValAt W (w.heap.size + 1) 23 kb b
  x : ValAt W g1 25 ka a
  y : ValAt W g2 25 kb b
  bel : Below w.heap.size w W
  laid : Laid W
theorem Pair.below {w W W' : World} {ka a kb b : Int} {g1 g2 : Nat} (h : Pair w ka a kb b g1 g2 W) (hb : Below W.heap.size W W') : Pair w ka a kb b g1 g2 W' := ⟨h.xr.below hb, h.yr.below hb, h.x.below hb, h.y.below hb, h.bel.trans (hb.mono h.bel.size), h.laid.below hb⟩
theorem Pair.alloc {w W : World} {ka a kb b : Int} {g1 g2 : Nat} (h : Pair w ka a kb b g1 g2 W) (o : Obj) : Pair w ka a kb b g1 g2 (W.alloc o) := h.below (below_new W o)
/-- behind the first look. -/
structure Boxes (w : World) (ka a kb b : Int) (W : World) : Prop where
  xr : ValAt W w.heap.size 23 ka a
  yr : ValAt W (w.heap.size + 1) 23 kb b
  bel : Below w.heap.size w W
  laid : Laid W
theorem boxes_new {w w1 : World} {ka a kb b : Int} (hL : Laid w) (hb : Below ((w.alloc (.cells #[.int .i64 ka, .int .i64 a] 23)).alloc (.cells #[.int .i64 kb, .int .i64 b] 23)).heap.size ((w.alloc (.cells #[.int .i64 ka, .int .i64 a] 23)).alloc (.cells #[.int .i64 kb, .int .i64 b] 23)) w1) : Boxes w ka a kb b w1 := by
  refine ⟨((valAt_new _ _ _ _).alloc _).below hb, ValAt.below ?_ hb, (two_below w _ _).trans (hb.mono (by simp; omega)), ((hL.alloc _).alloc _).below hb⟩
  have := valAt_new (w.alloc (.cells #[.int .i64 ka, .int .i64 a] 23)) kb b 23
  simpa using this
theorem pair_xy {w w1 : World} {ka a kb b : Int} (h : Boxes w ka a kb b w1) : Pair w ka a kb b w1.heap.size (w1.heap.size + 1) (((w1.alloc (.cells #[.int .i64 ka, .int .i64 a] 25)).alloc (.cells #[.int .i64 kb, .int .i64 b] 25))).drew := by
  have hb := (two_below w1 (.cells #[.int .i64 ka, .int .i64 a] 25) (.cells #[.int .i64 kb, .int .i64 b] 25)).drew
  refine ⟨h.xr.below hb, h.yr.below hb, ((valAt_new _ _ _ _).alloc _).drew, ValAt.drew ?_, h.bel.trans (hb.mono h.bel.size), h.laid.below hb⟩
  have := valAt_new (w1.alloc (.cells #[.int .i64 ka, .int .i64 a] 25)) kb b 25
  simpa using this
theorem pair_yx {w w1 : World} {ka a kb b : Int} (h : Boxes w ka a kb b w1) : Pair w ka a kb b (w1.heap.size + 1) w1.heap.size (((w1.alloc (.cells #[.int .i64 kb, .int .i64 b] 25)).alloc (.cells #[.int .i64 ka, .int .i64 a] 25))).drew := by
  have hb := (two_below w1 (.cells #[.int .i64 kb, .int .i64 b] 25) (.cells #[.int .i64 ka, .int .i64 a] 25)).drew
  refine ⟨h.xr.below hb, h.yr.below hb, ValAt.drew ?_, ((valAt_new _ _ _ _).alloc _).drew, h.bel.trans (hb.mono h.bel.size), h.laid.below hb⟩
  have := valAt_new (w1.alloc (.cells #[.int .i64 kb, .int .i64 b] 25)) ka a 25
  simpa using this
/-- the three functions, in a row. -/
structure Fns (g : Nat) (W : World) : Prop where
  is : W.heap[g]? = some (.cells #[.func (.func 10) #[] #[], .func (.func 11) #[] #[], .func (.func 12) #[] #[]] 26 (0, 0))
theorem fns_new (w : World) : Fns w.heap.size (w.alloc (.cells #[.func (.func 10) #[] #[], .func (.func 11) #[] #[], .func (.func 12) #[] #[]] 26)) := ⟨by show (w.heap.push _)[w.heap.size]? = _; rw [Array.getElem?_push, if_pos rfl]⟩
theorem Fns.lt {g : Nat} {W : World} (h : Fns g W) : g < W.heap.size := by
  rcases Nat.lt_or_ge g W.heap.size with h' | h'
  · exact h'
  · have := h.is; rw [Array.getElem?_eq_none h'] at this; cases this
theorem Fns.below {g : Nat} {W W' : World} (h : Fns g W) (hb : Below W.heap.size W W') : Fns g W' := ⟨by rw [hb.block g h.lt]; exact h.is⟩
theorem Fns.c0 {g : Nat} {W : World} (h : Fns g W) : W.cell? ⟨g, 0, none⟩ = some (.func (.func 10) #[] #[]) := by simp [World.cell?, h.is]
theorem Fns.c1 {g : Nat} {W : World} (h : Fns g W) : W.cell? ⟨g, 1, none⟩ = some (.func (.func 11) #[] #[]) := by simp [World.cell?, h.is]
theorem Fns.c2 {g : Nat} {W : World} (h : Fns g W) : W.cell? ⟨g, 2, none⟩ = some (.func (.func 12) #[] #[]) := by simp [World.cell?, h.is]
theorem four_cases {k : Int} (h0 : 0 ≤ k) (h3 : k ≤ 3) : k = 0 ∨ k = 1 ∨ k = 2 ∨ k = 3 := by omega
theorem did_num {f : Int → Int → Int} {ka a kb b : Int} {x : Int × Int × Int} (h : did f ka a kb b = x) : valE (did f ka a kb b) = .tuple #[.agg #[.int .i64 x.1, .int .i64 x.2.1], .int .i64 x.2.2] := by rw [h]; rfl
def FnRel (w : World) (ka a kb b : Int) (g1 g2 gs : Nat) (i : Value) (wr : World) : Prop := ∃ k : Int, 0 ≤ k ∧ k ≤ 3 ∧ i = .int .i64 k ∧ Pair w ka a kb b g1 g2 wr ∧ Fns gs wr
end Go.Proofs.YtpfoehcgcofgpaaDoor
