/-
  Rows of edges in memory; a graph and an order that grow by them.
-/
import Derived.Test.YtgelfjoacppkcaaDoorTopoAlive
namespace Go.Proofs.YtgelfjoacppkcaaDoor
open Go.RowKit
def i64p (z : Int) : Prop := -9223372036854775808 ≤ z ∧ z ≤ 9223372036854775807
/-- a slice reads as these edges. -/
def EdgesAt (w : World) (A : Option Addr) (n c : Nat) (es : Nat → Int × Int) : Prop :=
  n ≤ c ∧ c ≤ maxLen ∧ (0 < n → ∃ ad, A = some ad ∧ ∀ i, i < n → w.cell? (ad.add (i * 2)) = some (.int .i64 (es i).1) ∧ w.cell? (ad.add (i * 2 + 1)) = some (.int .i64 (es i).2) ∧ i64p (es i).1 ∧ i64p (es i).2)
/-- what comes of the first k edges. -/
noncomputable def growTo (es : Nat → Int × Int) : Nat → Mm.Gr × Od.O
  | 0 => (zeroM, Od.newO)
  | k + 1 => ((Od.insert (growTo es k).1 (growTo es k).2 (es k).1 (es k).2).1, (Od.insert (growTo es k).1 (growTo es k).2 (es k).1 (es k).2).2.1)
theorem grow_sorted (es : Nat → Int × Int) (k : Nat) : Od.Sorted (growTo es k).1 (growTo es k).2 := by
  induction k with
  | zero => exact zero_sorted
  | succ k ih => exact Od.insert_sorted _ _ ih
theorem grow_ok (es : Nat → Int × Int) (k : Nat) : Mm.Ok (growTo es k).1 := by
  induction k with
  | zero => exact zero_ok
  | succ k ih => exact Od.insert_ok _ _ ih
/-- both variables given anew. -/
theorem wpList_set2 {ops : Array Oper} {rest : List Oper} {o1 o2 : Oper} {a : Act} {W : World} {Q : Exit → Act → World → Prop} (hg1 : o1.guard = none) (hg2 : o2.guard = none) (t u : Nat) (x1 y1 x2 y2 : Operand)
    (ho1 : o1.op = .store t x1 y1) (ho2 : o2.op = .store u x2 y2) (hd1 : o1.dst = none) (hd2 : o2.dst = none) (g h : Nat) (m m' : Mm.Gr) (o o' : Od.O) (hx1 : a.eval x1 = .pointer (some ⟨g, 0, none⟩)) (hy1 : a.eval y1 = .agg (matA m)) (hx2 : a.eval x2 = .pointer (some ⟨h, 0, none⟩)) (hy2 : a.eval y2 = .agg (ordA o))
    (hm : MatAt W g m' t) (ho : OrdAt W h o' u) (hi1 : (Tryd.prog.info? t).map (·.size) = some 32) (hi2 : (Tryd.prog.info? u).map (·.size) = some 32)
    (hK : ∀ W', MatAt W' g m t → OrdAt W' h o u → (∀ B a, Below B a W → B ≤ g → B ≤ h → Below B a W') → (∀ k, k ≠ g → k ≠ h → W'.heap[k]? = W.heap[k]?) → wpList Tryd.prog ops Q rest a W') : wpList Tryd.prog ops Q (o1 :: o2 :: rest) a W := by
  have hne := ord_ne ho hm
  refine wpList_store_row hg1 t x1 y1 ho1 g (matA m) hx1 hy1 t _ hm (by rw [matA_size]; exact hi1) (by rw [matA_size, matA_size]) (matA_one _) ?_
  rw [hd1]
  refine wpList_store_row hg2 u x2 y2 ho2 h (ordA o) hx2 hy2 u _ (ho.setRow (matA m) hne) (by rw [ordA_size]; exact hi2) (by rw [ordA_size, ordA_size]) (ordA_one _) ?_
  rw [hd2]
  exact hK _ ((matAt_put hm).setRow _ (Ne.symm hne)) (ordAt_put (ho.setRow (matA m) hne)) (fun B a hb h1 h2 => setRow_below (setRow_below hb h1) h2) (fun k h1 h2 => (setRow_other _ _ _ _ h2).trans (setRow_other _ _ _ _ h1))
/-- the variables of a loop over edges. -/
structure GSt (w : World) (g h : Nat) (m : Mm.Gr) (o : Od.O) (W : World) : Prop where
  gr : MatAt W g m 32
  od : OrdAt W h o 34
  tab : TabAt W
  bel : Below w.heap.size w W
theorem GSt.below {w W W' : World} {g h : Nat} {m : Mm.Gr} {o : Od.O} (s : GSt w g h m o W) (hb : Below W.heap.size W W') : GSt w g h m o W' := ⟨s.gr.below hb, s.od.below hb, tab_below s.tab hb, s.bel.trans (hb.mono s.bel.size)⟩
theorem cell_keep {W W' : World} {p : Addr} {v : Value} (h : W.cell? p = some v) (hb : Below W.heap.size W W') : W'.cell? p = some v := (hb.cell (cell_lt h)).trans h
theorem edge_second {W : World} {ad : Addr} {k : Nat} {v : Value} (h : W.cell? (ad.add (k * 2 + 1)) = some v) : W.cell? ⟨(ad.add (k * 2)).block, (ad.add (k * 2)).off + 1, none⟩ = some v := by
  rw [← Addr.add_add, Addr.add_succ' _ 0] at h
  exact h
theorem cell_same {W W' : World} {p : Addr} {v : Value} (h : W.cell? p = some v) (hb : W'.heap[p.block]? = W.heap[p.block]?) : W'.cell? p = some v := (World.cell?_of_block hb).trans h
/-- an edge that may be is there, and all is sorted; or it closes a way round. -/
theorem ins_may {m : Mm.Gr} {o : Od.O} {x y : Nat} (hx : x < 32) (hy : y < 32) (hxy : x ≠ y) (hs : Od.Sorted m o) :
    (∃ q, Od.insert m o (x : Nat) (y : Nat) = (Mm.put m x y, q, true) ∧ Od.Sorted (Mm.put m x y) q ∧ Mm.free (Mm.put m x y) = true) ∨ (Od.insert m o (x : Nat) (y : Nat) = (m, o, false) ∧ Mm.free (Mm.put m x y) = false) := by
  by_cases hlt : o x < o y
  · have h := Od.put_sorted hs hx hy hlt
    exact .inl ⟨o, Od.insert_up hx hy hxy hs hlt, h, Od.sorted_free h⟩
  · cases hf : (Od.fore m o x y).testBit x
    · have h := Od.moved_sorted hs hx hy (by omega) hf
      exact .inl ⟨_, Od.insert_down hx hy hxy hs (by omega) hf, h, Od.sorted_free h⟩
    · exact .inr ⟨Od.insert_round hx hy hxy hs (by omega) hf, Od.fore_closes hs hx hy hxy hf⟩
theorem free_val (m : Mm.Gr) (b : Bool) (w : World) (hm : Mm.Ok m) (hT : TabAt w) (h : Mm.free m = b) :
    Calls Tryd.prog 25 #[.agg (matA m)] w fun e w' => e = .returned (.bool b) ∧ Below w.heap.size w w' := by
  have := free_any m w hm hT
  rw [h] at this; exact this
theorem insert_val (m : Mm.Gr) (o : Od.O) (a b : Int) (r : Mm.Gr × Od.O × Bool) (w : World) (hm : Mm.Ok m) (ho : Od.Ok o) (ha : i64p a) (hb : i64p b) (hT : TabAt w) (h : Od.insert m o a b = r) :
    Calls Tryd.prog 12 #[.agg (matA m), .agg (ordA o), .int .i64 a, .int .i64 b] w fun e w' => e = .returned (.tuple #[.agg (matA r.1), .agg (ordA r.2.1), .bool r.2.2]) ∧ Below w.heap.size w w' := by
  have := insert_any m o a b w hm ho ha hb hT
  rw [h] at this; exact this
theorem tab_keep {w W : World} (h : TabAt w) (hb : Below w.heap.size w W) : TabAt W := h.below hb h.lt
end Go.Proofs.YtgelfjoacppkcaaDoor
