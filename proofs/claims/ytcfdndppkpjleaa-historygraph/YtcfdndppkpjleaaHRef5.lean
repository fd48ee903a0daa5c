/-
  The contract of the document's Graph.
-/
import Derived.Test.YtcfdndppkpjleaaHRef4
import Derived.Test.YtcfdndppkpjleaaMatRef1
import Derived.Test.YtcfdndppkpjleaaHGr3
namespace Go.Proofs.Ytcfdndppkpjleaa.Hi
open Go.RowKit
open Tx (i64p)
/-- the result's box, the matrix, the variables, the events. -/
structure GQ (w : World) (A : Option Addr) (L : List Ev) (q : Nat) (m : Mm.Gr) (W : World) : Prop where
  re : MatAt W w.heap.size zeroM 54
  bx : MatAt W (w.heap.size + 1) m 54
  mt : W.heap[q]? = some (.cells (metA L) 86 (0, 0))
  at_ : Rn.At encE W A L
  bel : Below w.heap.size w W
section
variable {w : World} {A : Option Addr} {L : List Ev} {q : Nat} {m : Mm.Gr}
theorem GQ.below {W W' : World} (h : GQ w A L q m W) (hb : Below W.heap.size W W') : GQ w A L q m W' :=
  ⟨h.re.below hb, h.bx.below hb, (hb.block q (Array.getElem?_eq_some_iff.1 h.mt).1).trans h.mt, h.at_.below hb (Nat.le_refl _), h.bel.trans (hb.mono h.bel.size)⟩
theorem GQ.put {W : World} {m' : Mm.Gr} (h : GQ w A L q m W) (hq : w.heap.size + 1 < q) (h0 : Rn.At encE w A L) : GQ w A L q m' (W.setRow (w.heap.size + 1) (matA m')) := by
  have hb : Below w.heap.size w (W.setRow (w.heap.size + 1) (matA m')) := setRow_below h.bel (by omega)
  exact ⟨h.re.setRow _ (by omega), matAt_put h.bx, (setRow_other _ _ _ _ (by omega)).trans h.mt, h0.below hb (Nat.le_refl _), hb⟩
end
theorem met_box (w3 : World) (L : List Ev) (z : Array Value) : ((w3.alloc (.cells z 86)).setRow w3.heap.size (metA L)).heap[w3.heap.size]? = some (.cells (metA L) 86 (0, 0)) ∧ Below w3.heap.size w3 ((w3.alloc (.cells z 86)).setRow w3.heap.size (metA L)) :=
  ⟨setRow_heap _ _ _ _ _ _ (heap_alloc_new _ _), setRow_below (Rn.below_new _ _) (Nat.le_refl _)⟩
/-- the edges of those whose turn was. -/
def Gd (L : List Ev) (n k b : Nat) (i j : Nat) : Prop := (i < k ∨ (i = k ∧ j < b)) ∧ i < n ∧ j < n ∧ i ≠ j ∧ Dc L i j
theorem gd_skip {L : List Ev} {n k b : Nat} {m : Mm.Gr} (h : Is m (Gd L n k b)) (hno : k = b ∨ ¬ Dc L k b) : Is m (Gd L n k (b + 1)) := by
  refine h.congr fun i j _ => ?_
  unfold Gd
  constructor
  · rintro ⟨h1, h2⟩; exact ⟨h1.imp id (fun h => ⟨h.1, by omega⟩), h2⟩
  · rintro ⟨h1, h2, h3, h4, h5⟩
    refine ⟨?_, h2, h3, h4, h5⟩
    rcases h1 with h1 | ⟨h1, h6⟩
    · exact .inl h1
    · rcases Nat.lt_or_ge j b with hj | hj
      · exact .inr ⟨h1, hj⟩
      · obtain rfl : j = b := by omega
        subst h1
        rcases hno with hno | hno
        · exact absurd hno h4
        · exact absurd h5 hno
theorem gd_put {L : List Ev} {n k b : Nat} {m : Mm.Gr} (h : Is m (Gd L n k b)) (hk : k < n) (hb : b < n) (hn : n ≤ 32) (hne : k ≠ b) (hyes : Dc L k b) : Is (Mm.put m k b) (Gd L n k (b + 1)) := by
  refine (h.put (a := k) (b := b) (by omega)).congr fun i j _ => ?_
  unfold Gd
  constructor
  · rintro (⟨h1, h2⟩ | ⟨rfl, rfl⟩)
    · exact ⟨h1.imp id (fun h => ⟨h.1, by omega⟩), h2⟩
    · exact ⟨.inr ⟨rfl, Nat.lt_succ_self _⟩, hk, hb, hne, hyes⟩
  · rintro ⟨h1, h2, h3, h4, h5⟩
    rcases h1 with h1 | ⟨h1, h6⟩
    · exact .inl ⟨.inl h1, h2, h3, h4, h5⟩
    · rcases Nat.lt_or_ge j b with hj | hj
      · exact .inl ⟨.inr ⟨h1, hj⟩, h2, h3, h4, h5⟩
      · exact .inr ⟨h1, by omega⟩
theorem gd_row {L : List Ev} {n k : Nat} {m : Mm.Gr} (h : Is m (Gd L n k n)) : Is m (Gd L n (k + 1) 0) := by
  refine h.congr fun i j _ => ?_
  unfold Gd
  constructor
  · rintro ⟨h1, h2⟩; exact ⟨.inl (by omega), h2⟩
  · rintro ⟨h1, h2, h3, h4⟩; exact ⟨by omega, h2, h3, h4⟩
theorem gd_all {L : List Ev} {l : List Cr} {m : Mm.Gr} (hr : Rw L l) (h : Is m (Gd L l.length l.length 0)) : Is m (Ge l) := by
  refine h.congr fun i j _ => ?_
  rw [ge_dc hr]
  unfold Gd
  exact ⟨fun h => h.2, fun h => ⟨.inl h.1, h⟩⟩
/-- by the variables so far. -/
def Dx (L : List Ev) (k b x : Nat) : Prop := (0 ≤ enI L ((k : Int) + 1) ∧ enI L ((k : Int) + 1) < whI L 0 ((b : Int) + 1)) ∨ ∃ y : Nat, y < x ∧ met L y = true ∧ ahead L ((k : Int) + 1) ((b : Int) + 1) y = true
theorem dx_all {L : List Ev} {k b x : Nat} (hx : x ≤ 64) (h : Dx L k b x) : Dc L k b := h.imp id (fun ⟨y, h1, h2⟩ => ⟨y, by omega, h2⟩)
theorem dx_step {L : List Ev} {k b x : Nat} (h : ¬ Dx L k b x) (hn : ¬ (met L x = true ∧ ahead L ((k : Int) + 1) ((b : Int) + 1) x = true)) : ¬ Dx L k b (x + 1) := by
  rintro (h1 | ⟨y, h1, h2⟩)
  · exact h (.inl h1)
  · rcases Nat.lt_or_ge y x with hy | hy
    · exact h (.inr ⟨y, hy, h2⟩)
    · obtain rfl : y = x := by omega
      exact hn h2
theorem dx_zero {L : List Ev} {k b : Nat} (h : ¬ (0 ≤ enI L ((k : Int) + 1) ∧ enI L ((k : Int) + 1) < whI L 0 ((b : Int) + 1))) : ¬ Dx L k b 0 := by
  rintro (h1 | ⟨y, h1, _⟩)
  · exact h h1
  · omega
def GxRel (L : List Ev) (k b : Nat) (w4 : World) (v i : Value) (wr : World) : Prop := ∃ (x : Nat) (s : Bool), x ≤ 64 ∧ i = .int .i64 (x : Nat) ∧ v = .bool s ∧ (s = true → Dc L k b) ∧ (s = false → ¬ Dx L k b x) ∧ wr = w4
def GaRel (w : World) (A : Option Addr) (L : List Ev) (q n : Nat) (i : Value) (wr : World) : Prop := ∃ (k : Nat) (m : Mm.Gr), k ≤ n ∧ i = .int .i64 ((k : Int) + 1) ∧ GQ w A L q m wr ∧ Is m (Gd L n k 0)
def GbRel (w : World) (A : Option Addr) (L : List Ev) (q n k : Nat) (i : Value) (wr : World) : Prop := ∃ (b : Nat) (m : Mm.Gr), b ≤ n ∧ i = .int .i64 ((b : Int) + 1) ∧ GQ w A L q m wr ∧ Is m (Gd L n k b)
theorem zero_two (w : World) : MatAt ((w.alloc (.cells #[Value.int .u64 0, Value.int .u64 0, Value.int .u64 0, Value.int .u64 0, Value.int .u64 0, Value.int .u64 0, Value.int .u64 0, Value.int .u64 0, Value.int .u64 0, Value.int .u64 0, Value.int .u64 0, Value.int .u64 0, Value.int .u64 0, Value.int .u64 0, Value.int .u64 0, Value.int .u64 0, Value.int .u64 0, Value.int .u64 0, Value.int .u64 0, Value.int .u64 0, Value.int .u64 0, Value.int .u64 0, Value.int .u64 0, Value.int .u64 0, Value.int .u64 0, Value.int .u64 0, Value.int .u64 0, Value.int .u64 0, Value.int .u64 0, Value.int .u64 0, Value.int .u64 0, Value.int .u64 0] 54)).alloc (.cells #[Value.int .u64 0, Value.int .u64 0, Value.int .u64 0, Value.int .u64 0, Value.int .u64 0, Value.int .u64 0, Value.int .u64 0, Value.int .u64 0, Value.int .u64 0, Value.int .u64 0, Value.int .u64 0, Value.int .u64 0, Value.int .u64 0, Value.int .u64 0, Value.int .u64 0, Value.int .u64 0, Value.int .u64 0, Value.int .u64 0, Value.int .u64 0, Value.int .u64 0, Value.int .u64 0, Value.int .u64 0, Value.int .u64 0, Value.int .u64 0, Value.int .u64 0, Value.int .u64 0, Value.int .u64 0, Value.int .u64 0, Value.int .u64 0, Value.int .u64 0, Value.int .u64 0, Value.int .u64 0] 54)) w.heap.size zeroM 54 ∧ MatAt ((w.alloc (.cells #[Value.int .u64 0, Value.int .u64 0, Value.int .u64 0, Value.int .u64 0, Value.int .u64 0, Value.int .u64 0, Value.int .u64 0, Value.int .u64 0, Value.int .u64 0, Value.int .u64 0, Value.int .u64 0, Value.int .u64 0, Value.int .u64 0, Value.int .u64 0, Value.int .u64 0, Value.int .u64 0, Value.int .u64 0, Value.int .u64 0, Value.int .u64 0, Value.int .u64 0, Value.int .u64 0, Value.int .u64 0, Value.int .u64 0, Value.int .u64 0, Value.int .u64 0, Value.int .u64 0, Value.int .u64 0, Value.int .u64 0, Value.int .u64 0, Value.int .u64 0, Value.int .u64 0, Value.int .u64 0] 54)).alloc (.cells #[Value.int .u64 0, Value.int .u64 0, Value.int .u64 0, Value.int .u64 0, Value.int .u64 0, Value.int .u64 0, Value.int .u64 0, Value.int .u64 0, Value.int .u64 0, Value.int .u64 0, Value.int .u64 0, Value.int .u64 0, Value.int .u64 0, Value.int .u64 0, Value.int .u64 0, Value.int .u64 0, Value.int .u64 0, Value.int .u64 0, Value.int .u64 0, Value.int .u64 0, Value.int .u64 0, Value.int .u64 0, Value.int .u64 0, Value.int .u64 0, Value.int .u64 0, Value.int .u64 0, Value.int .u64 0, Value.int .u64 0, Value.int .u64 0, Value.int .u64 0, Value.int .u64 0, Value.int .u64 0] 54)) (w.heap.size + 1) zeroM 54 ∧ Below w.heap.size w ((w.alloc (.cells #[Value.int .u64 0, Value.int .u64 0, Value.int .u64 0, Value.int .u64 0, Value.int .u64 0, Value.int .u64 0, Value.int .u64 0, Value.int .u64 0, Value.int .u64 0, Value.int .u64 0, Value.int .u64 0, Value.int .u64 0, Value.int .u64 0, Value.int .u64 0, Value.int .u64 0, Value.int .u64 0, Value.int .u64 0, Value.int .u64 0, Value.int .u64 0, Value.int .u64 0, Value.int .u64 0, Value.int .u64 0, Value.int .u64 0, Value.int .u64 0, Value.int .u64 0, Value.int .u64 0, Value.int .u64 0, Value.int .u64 0, Value.int .u64 0, Value.int .u64 0, Value.int .u64 0, Value.int .u64 0] 54)).alloc (.cells #[Value.int .u64 0, Value.int .u64 0, Value.int .u64 0, Value.int .u64 0, Value.int .u64 0, Value.int .u64 0, Value.int .u64 0, Value.int .u64 0, Value.int .u64 0, Value.int .u64 0, Value.int .u64 0, Value.int .u64 0, Value.int .u64 0, Value.int .u64 0, Value.int .u64 0, Value.int .u64 0, Value.int .u64 0, Value.int .u64 0, Value.int .u64 0, Value.int .u64 0, Value.int .u64 0, Value.int .u64 0, Value.int .u64 0, Value.int .u64 0, Value.int .u64 0, Value.int .u64 0, Value.int .u64 0, Value.int .u64 0, Value.int .u64 0, Value.int .u64 0, Value.int .u64 0, Value.int .u64 0] 54)) := by
  have h1 : MatAt (w.alloc (.cells #[Value.int .u64 0, Value.int .u64 0, Value.int .u64 0, Value.int .u64 0, Value.int .u64 0, Value.int .u64 0, Value.int .u64 0, Value.int .u64 0, Value.int .u64 0, Value.int .u64 0, Value.int .u64 0, Value.int .u64 0, Value.int .u64 0, Value.int .u64 0, Value.int .u64 0, Value.int .u64 0, Value.int .u64 0, Value.int .u64 0, Value.int .u64 0, Value.int .u64 0, Value.int .u64 0, Value.int .u64 0, Value.int .u64 0, Value.int .u64 0, Value.int .u64 0, Value.int .u64 0, Value.int .u64 0, Value.int .u64 0, Value.int .u64 0, Value.int .u64 0, Value.int .u64 0, Value.int .u64 0] 54)) w.heap.size zeroM 54 := zero_lit w 54
  have h2 : MatAt ((w.alloc (.cells #[Value.int .u64 0, Value.int .u64 0, Value.int .u64 0, Value.int .u64 0, Value.int .u64 0, Value.int .u64 0, Value.int .u64 0, Value.int .u64 0, Value.int .u64 0, Value.int .u64 0, Value.int .u64 0, Value.int .u64 0, Value.int .u64 0, Value.int .u64 0, Value.int .u64 0, Value.int .u64 0, Value.int .u64 0, Value.int .u64 0, Value.int .u64 0, Value.int .u64 0, Value.int .u64 0, Value.int .u64 0, Value.int .u64 0, Value.int .u64 0, Value.int .u64 0, Value.int .u64 0, Value.int .u64 0, Value.int .u64 0, Value.int .u64 0, Value.int .u64 0, Value.int .u64 0, Value.int .u64 0] 54)).alloc (.cells #[Value.int .u64 0, Value.int .u64 0, Value.int .u64 0, Value.int .u64 0, Value.int .u64 0, Value.int .u64 0, Value.int .u64 0, Value.int .u64 0, Value.int .u64 0, Value.int .u64 0, Value.int .u64 0, Value.int .u64 0, Value.int .u64 0, Value.int .u64 0, Value.int .u64 0, Value.int .u64 0, Value.int .u64 0, Value.int .u64 0, Value.int .u64 0, Value.int .u64 0, Value.int .u64 0, Value.int .u64 0, Value.int .u64 0, Value.int .u64 0, Value.int .u64 0, Value.int .u64 0, Value.int .u64 0, Value.int .u64 0, Value.int .u64 0, Value.int .u64 0, Value.int .u64 0, Value.int .u64 0] 54)) (w.alloc (.cells #[Value.int .u64 0, Value.int .u64 0, Value.int .u64 0, Value.int .u64 0, Value.int .u64 0, Value.int .u64 0, Value.int .u64 0, Value.int .u64 0, Value.int .u64 0, Value.int .u64 0, Value.int .u64 0, Value.int .u64 0, Value.int .u64 0, Value.int .u64 0, Value.int .u64 0, Value.int .u64 0, Value.int .u64 0, Value.int .u64 0, Value.int .u64 0, Value.int .u64 0, Value.int .u64 0, Value.int .u64 0, Value.int .u64 0, Value.int .u64 0, Value.int .u64 0, Value.int .u64 0, Value.int .u64 0, Value.int .u64 0, Value.int .u64 0, Value.int .u64 0, Value.int .u64 0, Value.int .u64 0] 54)).heap.size zeroM 54 := zero_lit (w.alloc (.cells #[Value.int .u64 0, Value.int .u64 0, Value.int .u64 0, Value.int .u64 0, Value.int .u64 0, Value.int .u64 0, Value.int .u64 0, Value.int .u64 0, Value.int .u64 0, Value.int .u64 0, Value.int .u64 0, Value.int .u64 0, Value.int .u64 0, Value.int .u64 0, Value.int .u64 0, Value.int .u64 0, Value.int .u64 0, Value.int .u64 0, Value.int .u64 0, Value.int .u64 0, Value.int .u64 0, Value.int .u64 0, Value.int .u64 0, Value.int .u64 0, Value.int .u64 0, Value.int .u64 0, Value.int .u64 0, Value.int .u64 0, Value.int .u64 0, Value.int .u64 0, Value.int .u64 0, Value.int .u64 0] 54)) 54
  rw [Rn.size_new] at h2
  exact ⟨h1.alloc _, h2, (Rn.below_new _ _).alloc (by simp) _⟩
theorem ahead_val (A : Option Addr) (c : Nat) (L : List Ev) (a b x : Int) (w : World) {v : Bool} (h : Rn.At encE w A L) (hl : L.length ≤ 2000) (hv : ahead L a b x = v) :
    Calls Try.prog 47 #[.slice A L.length c, .int .i64 a, .int .i64 b, .int .i64 x] w fun r w' => r = .returned (.bool v) ∧ w' = w := hv ▸ ahead_any A c L a b x w h hl
set_option maxRecDepth 100000 in
set_option maxHeartbeats 16000000 in
theorem graph_r (A : Option Addr) (c : Nat) (L : List Ev) (w : World) (h : Rn.At encE w A L) (hl : L.length ≤ 300) (hc : L.length ≤ c) (hcm : c ≤ maxLen) :
    Calls Try.prog 26 #[.slice A L.length c] w (GrPost L w) := by
  have H := Lib.hid h
  have HL := Lib.hid (show L.length ≤ 2000 from by omega)
  have HZ := Lib.hid (zero_two w)
  have HR := Lib.hid (right_r A c L ((w.alloc (.cells #[Value.int .u64 0, Value.int .u64 0, Value.int .u64 0, Value.int .u64 0, Value.int .u64 0, Value.int .u64 0, Value.int .u64 0, Value.int .u64 0, Value.int .u64 0, Value.int .u64 0, Value.int .u64 0, Value.int .u64 0, Value.int .u64 0, Value.int .u64 0, Value.int .u64 0, Value.int .u64 0, Value.int .u64 0, Value.int .u64 0, Value.int .u64 0, Value.int .u64 0, Value.int .u64 0, Value.int .u64 0, Value.int .u64 0, Value.int .u64 0, Value.int .u64 0, Value.int .u64 0, Value.int .u64 0, Value.int .u64 0, Value.int .u64 0, Value.int .u64 0, Value.int .u64 0, Value.int .u64 0] 54)).alloc (.cells #[Value.int .u64 0, Value.int .u64 0, Value.int .u64 0, Value.int .u64 0, Value.int .u64 0, Value.int .u64 0, Value.int .u64 0, Value.int .u64 0, Value.int .u64 0, Value.int .u64 0, Value.int .u64 0, Value.int .u64 0, Value.int .u64 0, Value.int .u64 0, Value.int .u64 0, Value.int .u64 0, Value.int .u64 0, Value.int .u64 0, Value.int .u64 0, Value.int .u64 0, Value.int .u64 0, Value.int .u64 0, Value.int .u64 0, Value.int .u64 0, Value.int .u64 0, Value.int .u64 0, Value.int .u64 0, Value.int .u64 0, Value.int .u64 0, Value.int .u64 0, Value.int .u64 0, Value.int .u64 0] 54)) (h.below HZ.out.2.2 (Nat.le_refl _)) hl hc hcm)
  have HIDS := Lib.hid (fun (W : World) (h : Rn.At encE W A L) => ids_r A c L W h hl hc hcm)
  have HVAR := Lib.hid (fun (W : World) (h : Rn.At encE W A L) => vars_any A c L W h HL.out)
  clear h hc hcm
  unfold GrPost
  cases hcs : crs L with
  | none =>
    have hL0 : crL L = [] := by unfold crL; rw [hcs]; rfl
    have HLE := Lib.hid (show Is zeroM (Ge (crL L)) from by
      rw [hL0]
      exact Is.zero.congr fun i j _ => ⟨fun h => h.elim, fun ⟨b, c, h, _⟩ => by simp at h⟩)
    rw [hcs] at HR
    clear hcs hL0
    go_enter Try.func26, Try.ntmps26
    go_wp2_with fail
    refine HR.out.mono ?_
    rintro r w1 ⟨rfl, hb⟩
    have HZ1 := Lib.hid (HZ.out.1.below hb)
    have HX1 := Lib.hid (HZ.out.2.1.below hb)
    have HB1 := Lib.hid (HZ.out.2.2.trans (hb.mono HZ.out.2.2.size))
    clear hb
    go_wp2_with (first
      | (refine wpList_load_row rfl 54 (.tmp 4) rfl (w.heap.size + 1) rfl 54 #[Value.int .u64 0, Value.int .u64 0, Value.int .u64 0, Value.int .u64 0, Value.int .u64 0, Value.int .u64 0, Value.int .u64 0, Value.int .u64 0, Value.int .u64 0, Value.int .u64 0, Value.int .u64 0, Value.int .u64 0, Value.int .u64 0, Value.int .u64 0, Value.int .u64 0, Value.int .u64 0, Value.int .u64 0, Value.int .u64 0, Value.int .u64 0, Value.int .u64 0, Value.int .u64 0, Value.int .u64 0, Value.int .u64 0, Value.int .u64 0, Value.int .u64 0, Value.int .u64 0, Value.int .u64 0, Value.int .u64 0, Value.int .u64 0, Value.int .u64 0, Value.int .u64 0, Value.int .u64 0] (0, 0) _ HX1.out Try.underlying54 rfl (by rw [← matA_zeroL]; exact rmatInfo _) ?_)
      | (refine wpList_store_row rfl 54 (.tmp 2) (.tmp 14) rfl w.heap.size #[Value.int .u64 0, Value.int .u64 0, Value.int .u64 0, Value.int .u64 0, Value.int .u64 0, Value.int .u64 0, Value.int .u64 0, Value.int .u64 0, Value.int .u64 0, Value.int .u64 0, Value.int .u64 0, Value.int .u64 0, Value.int .u64 0, Value.int .u64 0, Value.int .u64 0, Value.int .u64 0, Value.int .u64 0, Value.int .u64 0, Value.int .u64 0, Value.int .u64 0, Value.int .u64 0, Value.int .u64 0, Value.int .u64 0, Value.int .u64 0, Value.int .u64 0, Value.int .u64 0, Value.int .u64 0, Value.int .u64 0, Value.int .u64 0, Value.int .u64 0, Value.int .u64 0, Value.int .u64 0] rfl rfl 54 _ HZ1.out (by rw [← matA_zeroL]; exact rmatInfo _) (by rw [← matA_zeroL]) (by rw [← matA_zeroL]; exact matA_one _) ?_))
    refine bodyPost_ret (results_row_tmp rfl _ _ w.heap.size 54 #[Value.int .u64 0, Value.int .u64 0, Value.int .u64 0, Value.int .u64 0, Value.int .u64 0, Value.int .u64 0, Value.int .u64 0, Value.int .u64 0, Value.int .u64 0, Value.int .u64 0, Value.int .u64 0, Value.int .u64 0, Value.int .u64 0, Value.int .u64 0, Value.int .u64 0, Value.int .u64 0, Value.int .u64 0, Value.int .u64 0, Value.int .u64 0, Value.int .u64 0, Value.int .u64 0, Value.int .u64 0, Value.int .u64 0, Value.int .u64 0, Value.int .u64 0, Value.int .u64 0, Value.int .u64 0, Value.int .u64 0, Value.int .u64 0, Value.int .u64 0, Value.int .u64 0, Value.int .u64 0] (0, 0) _ _ (.bool false) rfl rfl (setRow_heap _ _ _ _ _ _ HZ1.out) Try.underlying54 (by rw [← matA_zeroL]; exact rmatInfo _)) rfl ⟨zeroM, by rw [matA_zeroL]; rfl, HLE.out, ?_⟩
    exact setRow_below HB1.out (Nat.le_refl _)
  | some l =>
    have hL0 : crL L = l := by unfold crL; rw [hcs]; rfl
    have HRW := Lib.hid (show Rw L l from ⟨(crs_some hcs).2, HL.out⟩)
    rw [hL0]
    have hin := HIDS.out
    rw [hL0] at hin
    have HIN := Lib.hid hin
    rw [hcs] at HR
    clear hcs hL0 hin HIDS
    generalize hn : l.length = n at HIN
    have HN := Lib.hid hn
    have HN32 := Lib.hid (show n ≤ 32 from by rw [← hn]; exact HRW.out.few)
    have hNN : (n : Int) ≤ 32 := by have := HN32.out; omega
    clear hn
    go_enter Try.func26, Try.ntmps26
    go_wp2_with fail
    refine HR.out.mono ?_
    rintro r w1 ⟨rfl, hb⟩
    have HZ1 := Lib.hid (HZ.out.1.below hb)
    have HX1 := Lib.hid (HZ.out.2.1.below hb)
    have HB1 := Lib.hid (HZ.out.2.2.trans (hb.mono HZ.out.2.2.size))
    clear hb
    go_wp2_with fail
    refine (HIN.out w1 (H.out.below HB1.out (Nat.le_refl _))).mono ?_
    rintro r w2 ⟨BI, dI, rfl, _, _, _, hb⟩
    have HZ2 := Lib.hid (HZ1.out.below hb)
    have HX2 := Lib.hid (HX1.out.below hb)
    have HB2 := Lib.hid (HB1.out.trans (hb.mono HB1.out.size))
    clear hb HZ1 HX1 HB1
    rw [idsL_len]
    go_wp2_with fail
    refine (HVAR.out w2 (H.out.below HB2.out (Nat.le_refl _))).mono ?_
    rintro r w3 ⟨rfl, hb⟩
    have HZ3 := Lib.hid (HZ2.out.below hb)
    have HX3 := Lib.hid (HX2.out.below hb)
    have HB3 := Lib.hid (HB2.out.trans (hb.mono HB2.out.size))
    clear hb HZ2 HX2 HB2
    go_wp2_with (refine wpList_store_row rfl 86 (.tmp 6) (.tmp 18) rfl w3.heap.size (metA L) rfl rfl 86 _ (heap_alloc_new _ _) (by rw [metA_size]; exact boolarr_info) (by rw [metA_size]; rfl) (metA_one _) ?_)
    generalize hw4 : World.setRow _ w3.heap.size (metA L) = w4
    have hmb : w4.heap[w3.heap.size]? = some (.cells (metA L) 86 (0, 0)) ∧ Below w3.heap.size w3 w4 := by rw [← hw4]; exact met_box w3 L _
    have hb4 := HB3.out.trans (hmb.2.mono HB3.out.size)
    have HG4 := Lib.hid (show GQ w A L w3.heap.size zeroM w4 from ⟨HZ3.out.below hmb.2, HX3.out.below hmb.2, hmb.1, H.out.below hb4 (Nat.le_refl _), hb4⟩)
    have HQ := Lib.hid (show w.heap.size + 1 < w3.heap.size from HX3.out.lt)
    clear hw4 hmb hb4 HZ3 HX3 HB3
    generalize w3.heap.size = q at HG4 HQ ⊢
    go_loopw [7] (GaRel w A L q n) (fun i _ => n + 1 - (intOf i).toNat)
    case atStart => exact ⟨0, _, Nat.zero_le _, rfl, HG4.out, Is.zero.congr fun i j _ => ⟨fun h => h.elim, fun ⟨h, _⟩ => by omega⟩⟩
    case round =>
      obtain ⟨k, m0, hk, rfl, hgs, his⟩ := hrel
      have HG0 := Lib.hid hgs
      have HI0 := Lib.hid his
      clear hgs his
      by_cases hlt : k < n
      · have hlt' : (k : Int) + 1 ≤ (n : Int) := by omega
        have HKN := Lib.hid (show k < n ∧ n ≤ 32 from ⟨hlt, HN32.out⟩)
        go_wp2
        go_loopw [8] (GbRel w A L q n k) (fun i _ => n + 1 - (intOf i).toNat)
        case atStart => exact ⟨0, _, Nat.zero_le _, rfl, HG0.out, HI0.out⟩
        case round =>
          obtain ⟨b, m, hb, rfl, hgs, his⟩ := hrel
          have HG := Lib.hid hgs
          have HI := Lib.hid his
          clear hgs his
          by_cases hlb : b < n
          · have hlb' : (b : Int) + 1 ≤ (n : Int) := by omega
            have HBN := Lib.hid (show b < n ∧ n ≤ 32 from ⟨hlb, HN32.out⟩)
            by_cases hab : k = b
            · have b0 : ((k : Int) + 1 == (b : Int) + 1) = true := by rw [beq_iff_eq]; omega
              have HI2 := Lib.hid (gd_skip HI.out (.inl hab))
              clear hab
              go_wp2
              go_roundw
              case rel => exact ⟨b + 1, _, by have := HBN.out; omega, by go_num, HG.out, HI2.out⟩
              case measure => simp [intOf]; have := HBN.out; omega
            · have b0 : ((k : Int) + 1 == (b : Int) + 1) = false := by rw [beq_eq_false_iff_ne]; omega
              have HNE := Lib.hid hab
              have HK1 := Lib.hid (show IntKind.i64.wrap (k : Int) = (k : Int) from by rw [IntKind.wrap_i64]; omega)
              generalize hen : enI L ((k : Int) + 1) = en
              generalize hwb : whI L 0 ((b : Int) + 1) = wb
              have HEN := Lib.hid hen
              have HWB := Lib.hid hwb
              clear hab hen hwb
              by_cases he0 : en ≥ 0
              · by_cases he1 : en < wb
                · have HD0 := Lib.hid (show Dc L k b from .inl (by rw [HEN.out, HWB.out]; exact ⟨he0, he1⟩))
                  go_wp2_with fail
                  refine (end_rv A c L ((k : Int) + 1) en _ HG.out.at_ HL.out HEN.out).mono ?_
                  rintro r w9 ⟨rfl, h9⟩
                  subst w9
                  go_wp2_with fail
                  refine (end_rv A c L ((k : Int) + 1) en _ HG.out.at_ HL.out HEN.out).mono ?_
                  rintro r w9 ⟨rfl, h9⟩
                  subst w9
                  go_wp2_with fail
                  refine (where_val A c L 0 ((b : Int) + 1) wb _ HG.out.at_ HL.out HWB.out).mono ?_
                  rintro r w9 ⟨rfl, h9⟩
                  subst w9
                  go_wp2
                  go_loopw [9, 10] (GxRel L k b wr) (fun _ i _ => 64 - (intOf i).toNat)
                  case atStart => exact ⟨0, true, by omega, rfl, rfl, (fun _ => HD0.out), (fun h => by cases h), rfl⟩
                  case round =>
                    obtain ⟨x, s, hx, rfl, rfl, hs1, hs0, hwx⟩ := hrel
                    subst hwx
                    have HS1 := Lib.hid hs1
                    have HS0 := Lib.hid hs0
                    clear hs1 hs0
                    cases s with
                    | true =>
                      have HDC := Lib.hid (HS1.out rfl)
                      by_cases hlx : (x : Int) < 64
                      · go_wp2_with (refine wpList_load_row rfl 54 (.tmp 4) rfl (w.heap.size + 1) rfl 54 (matA m) (0, 0) _ HG.out.bx Try.underlying54 rfl (rmatInfo m) ?_)
                        refine (rput_yes m k b _ HI.out.ok (by have := HKN.out; omega) (by have := HBN.out; omega) HNE.out).mono ?_
                        rintro r w9 ⟨rfl, hb9⟩
                        have HG9 := Lib.hid (HG.out.below hb9)
                        clear hb9
                        go_wp2_with (refine wpList_store_row rfl 54 (.tmp 4) (.tmp 73) rfl (w.heap.size + 1) (matA (Mm.put m k b)) rfl rfl 54 _ HG9.out.bx (rmatInfo _) (by rw [matA_size, matA_size]) (matA_one _) ?_)
                        have HG2 := Lib.hid (HG9.out.put (m' := Mm.put m k b) HQ.out H.out)
                        have HI2 := Lib.hid (gd_put HI.out HKN.out.1 HBN.out.1 HKN.out.2 HNE.out HDC.out)
                        generalize World.setRow _ (w.heap.size + 1) (matA (Mm.put m k b)) = w8 at HG2 ⊢
                        go_wp2
                        go_roundw
                        case rel => exact ⟨b + 1, _, by have := HBN.out; omega, by go_num, HG2.out, HI2.out⟩
                        case measure => simp [intOf]; have := HBN.out; omega
                      · go_wp2_with (refine wpList_load_row rfl 54 (.tmp 4) rfl (w.heap.size + 1) rfl 54 (matA m) (0, 0) _ HG.out.bx Try.underlying54 rfl (rmatInfo m) ?_)
                        refine (rput_yes m k b _ HI.out.ok (by have := HKN.out; omega) (by have := HBN.out; omega) HNE.out).mono ?_
                        rintro r w9 ⟨rfl, hb9⟩
                        have HG9 := Lib.hid (HG.out.below hb9)
                        clear hb9
                        go_wp2_with (refine wpList_store_row rfl 54 (.tmp 4) (.tmp 73) rfl (w.heap.size + 1) (matA (Mm.put m k b)) rfl rfl 54 _ HG9.out.bx (rmatInfo _) (by rw [matA_size, matA_size]) (matA_one _) ?_)
                        have HG2 := Lib.hid (HG9.out.put (m' := Mm.put m k b) HQ.out H.out)
                        have HI2 := Lib.hid (gd_put HI.out HKN.out.1 HBN.out.1 HKN.out.2 HNE.out HDC.out)
                        generalize World.setRow _ (w.heap.size + 1) (matA (Mm.put m k b)) = w8 at HG2 ⊢
                        go_wp2
                        go_roundw
                        case rel => exact ⟨b + 1, _, by have := HBN.out; omega, by go_num, HG2.out, HI2.out⟩
                        case measure => simp [intOf]; have := HBN.out; omega
                    | false =>
                      by_cases hlx : x < 64
                      · have hlx' : (x : Int) < 64 := by omega
                        have hx0 : (0 : Int) ≤ (x : Int) := by omega
                        have hmt := cell_of_row _ _ x _ _ (0, 0) HG.out.mt
                        rw [metA_get L x hlx] at hmt
                        cases hm : met L x with
                        | false =>
                          rw [hm] at hmt
                          have HDX := Lib.hid (dx_step (HS0.out rfl) (fun h => by rw [hm] at h; cases h.1))
                          clear hm
                          go_wp2
                          go_round
                          case rel => exact ⟨x + 1, false, by omega, by go_num, rfl, (fun h => by cases h), fun _ => HDX.out, rfl⟩
                          case measure => simp [intOf]; omega
                        | true =>
                          rw [hm] at hmt
                          cases ha : ahead L ((k : Int) + 1) ((b : Int) + 1) (x : Int) with
                          | false =>
                            have HDX := Lib.hid (dx_step (HS0.out rfl) (fun h => by rw [ha] at h; cases h.2))
                            have HAH := Lib.hid ha
                            clear hm ha
                            go_wp2_with fail
                            refine (ahead_val A c L ((k : Int) + 1) ((b : Int) + 1) (x : Int) _ HG.out.at_ HL.out HAH.out).mono ?_
                            rintro r w9 ⟨rfl, h9⟩
                            subst w9
                            go_wp2
                            go_round
                            case rel => exact ⟨x + 1, false, by omega, by go_num, rfl, (fun h => by cases h), fun _ => HDX.out, rfl⟩
                            case measure => simp [intOf]; omega
                          | true =>
                            have HDX := Lib.hid (show Dc L k b from .inr ⟨x, hlx, hm, ha⟩)
                            have HAH := Lib.hid ha
                            clear hm ha
                            go_wp2_with fail
                            refine (ahead_val A c L ((k : Int) + 1) ((b : Int) + 1) (x : Int) _ HG.out.at_ HL.out HAH.out).mono ?_
                            rintro r w9 ⟨rfl, h9⟩
                            subst w9
                            go_wp2
                            go_round
                            case rel => exact ⟨x + 1, true, by omega, by go_num, rfl, (fun _ => HDX.out), (fun h => by cases h), rfl⟩
                            case measure => simp [intOf]; omega
                      · have hlx' : ¬ (x : Int) < 64 := by omega
                        obtain rfl : x = 64 := by omega
                        have HDC := Lib.hid (show ¬ Dc L k b from fun h => HS0.out rfl h)
                        have HI2 := Lib.hid (gd_skip HI.out (.inr HDC.out))
                        go_wp2
                        go_roundw
                        case rel => exact ⟨b + 1, _, by have := HBN.out; omega, by go_num, HG.out, HI2.out⟩
                        case measure => simp [intOf]; have := HBN.out; omega
                · have HD0 := Lib.hid (show ¬ Dx L k b 0 from dx_zero (by rw [HEN.out, HWB.out]; exact fun h => he1 h.2))
                  go_wp2_with fail
                  refine (end_rv A c L ((k : Int) + 1) en _ HG.out.at_ HL.out HEN.out).mono ?_
                  rintro r w9 ⟨rfl, h9⟩
                  subst w9
                  go_wp2_with fail
                  refine (end_rv A c L ((k : Int) + 1) en _ HG.out.at_ HL.out HEN.out).mono ?_
                  rintro r w9 ⟨rfl, h9⟩
                  subst w9
                  go_wp2_with fail
                  refine (where_val A c L 0 ((b : Int) + 1) wb _ HG.out.at_ HL.out HWB.out).mono ?_
                  rintro r w9 ⟨rfl, h9⟩
                  subst w9
                  go_wp2
                  go_loopw [9, 10] (GxRel L k b wr) (fun _ i _ => 64 - (intOf i).toNat)
                  case atStart => exact ⟨0, false, by omega, rfl, congrArg Value.bool (decide_eq_false (by omega)), (fun h => by cases h), fun _ => HD0.out, rfl⟩
                  case round =>
                    obtain ⟨x, s, hx, rfl, rfl, hs1, hs0, hwx⟩ := hrel
                    subst hwx
                    have HS1 := Lib.hid hs1
                    have HS0 := Lib.hid hs0
                    clear hs1 hs0
                    cases s with
                    | true =>
                      have HDC := Lib.hid (HS1.out rfl)
                      by_cases hlx : (x : Int) < 64
                      · go_wp2_with (refine wpList_load_row rfl 54 (.tmp 4) rfl (w.heap.size + 1) rfl 54 (matA m) (0, 0) _ HG.out.bx Try.underlying54 rfl (rmatInfo m) ?_)
                        refine (rput_yes m k b _ HI.out.ok (by have := HKN.out; omega) (by have := HBN.out; omega) HNE.out).mono ?_
                        rintro r w9 ⟨rfl, hb9⟩
                        have HG9 := Lib.hid (HG.out.below hb9)
                        clear hb9
                        go_wp2_with (refine wpList_store_row rfl 54 (.tmp 4) (.tmp 73) rfl (w.heap.size + 1) (matA (Mm.put m k b)) rfl rfl 54 _ HG9.out.bx (rmatInfo _) (by rw [matA_size, matA_size]) (matA_one _) ?_)
                        have HG2 := Lib.hid (HG9.out.put (m' := Mm.put m k b) HQ.out H.out)
                        have HI2 := Lib.hid (gd_put HI.out HKN.out.1 HBN.out.1 HKN.out.2 HNE.out HDC.out)
                        generalize World.setRow _ (w.heap.size + 1) (matA (Mm.put m k b)) = w8 at HG2 ⊢
                        go_wp2
                        go_roundw
                        case rel => exact ⟨b + 1, _, by have := HBN.out; omega, by go_num, HG2.out, HI2.out⟩
                        case measure => simp [intOf]; have := HBN.out; omega
                      · go_wp2_with (refine wpList_load_row rfl 54 (.tmp 4) rfl (w.heap.size + 1) rfl 54 (matA m) (0, 0) _ HG.out.bx Try.underlying54 rfl (rmatInfo m) ?_)
                        refine (rput_yes m k b _ HI.out.ok (by have := HKN.out; omega) (by have := HBN.out; omega) HNE.out).mono ?_
                        rintro r w9 ⟨rfl, hb9⟩
                        have HG9 := Lib.hid (HG.out.below hb9)
                        clear hb9
                        go_wp2_with (refine wpList_store_row rfl 54 (.tmp 4) (.tmp 73) rfl (w.heap.size + 1) (matA (Mm.put m k b)) rfl rfl 54 _ HG9.out.bx (rmatInfo _) (by rw [matA_size, matA_size]) (matA_one _) ?_)
                        have HG2 := Lib.hid (HG9.out.put (m' := Mm.put m k b) HQ.out H.out)
                        have HI2 := Lib.hid (gd_put HI.out HKN.out.1 HBN.out.1 HKN.out.2 HNE.out HDC.out)
                        generalize World.setRow _ (w.heap.size + 1) (matA (Mm.put m k b)) = w8 at HG2 ⊢
                        go_wp2
                        go_roundw
                        case rel => exact ⟨b + 1, _, by have := HBN.out; omega, by go_num, HG2.out, HI2.out⟩
                        case measure => simp [intOf]; have := HBN.out; omega
                    | false =>
                      by_cases hlx : x < 64
                      · have hlx' : (x : Int) < 64 := by omega
                        have hx0 : (0 : Int) ≤ (x : Int) := by omega
                        have hmt := cell_of_row _ _ x _ _ (0, 0) HG.out.mt
                        rw [metA_get L x hlx] at hmt
                        cases hm : met L x with
                        | false =>
                          rw [hm] at hmt
                          have HDX := Lib.hid (dx_step (HS0.out rfl) (fun h => by rw [hm] at h; cases h.1))
                          clear hm
                          go_wp2
                          go_round
                          case rel => exact ⟨x + 1, false, by omega, by go_num, rfl, (fun h => by cases h), fun _ => HDX.out, rfl⟩
                          case measure => simp [intOf]; omega
                        | true =>
                          rw [hm] at hmt
                          cases ha : ahead L ((k : Int) + 1) ((b : Int) + 1) (x : Int) with
                          | false =>
                            have HDX := Lib.hid (dx_step (HS0.out rfl) (fun h => by rw [ha] at h; cases h.2))
                            have HAH := Lib.hid ha
                            clear hm ha
                            go_wp2_with fail
                            refine (ahead_val A c L ((k : Int) + 1) ((b : Int) + 1) (x : Int) _ HG.out.at_ HL.out HAH.out).mono ?_
                            rintro r w9 ⟨rfl, h9⟩
                            subst w9
                            go_wp2
                            go_round
                            case rel => exact ⟨x + 1, false, by omega, by go_num, rfl, (fun h => by cases h), fun _ => HDX.out, rfl⟩
                            case measure => simp [intOf]; omega
                          | true =>
                            have HDX := Lib.hid (show Dc L k b from .inr ⟨x, hlx, hm, ha⟩)
                            have HAH := Lib.hid ha
                            clear hm ha
                            go_wp2_with fail
                            refine (ahead_val A c L ((k : Int) + 1) ((b : Int) + 1) (x : Int) _ HG.out.at_ HL.out HAH.out).mono ?_
                            rintro r w9 ⟨rfl, h9⟩
                            subst w9
                            go_wp2
                            go_round
                            case rel => exact ⟨x + 1, true, by omega, by go_num, rfl, (fun _ => HDX.out), (fun h => by cases h), rfl⟩
                            case measure => simp [intOf]; omega
                      · have hlx' : ¬ (x : Int) < 64 := by omega
                        obtain rfl : x = 64 := by omega
                        have HDC := Lib.hid (show ¬ Dc L k b from fun h => HS0.out rfl h)
                        have HI2 := Lib.hid (gd_skip HI.out (.inr HDC.out))
                        go_wp2
                        go_roundw
                        case rel => exact ⟨b + 1, _, by have := HBN.out; omega, by go_num, HG.out, HI2.out⟩
                        case measure => simp [intOf]; have := HBN.out; omega
              · have HD0 := Lib.hid (show ¬ Dx L k b 0 from dx_zero (by rw [HEN.out, HWB.out]; exact fun h => he0 h.1))
                go_wp2_with fail
                refine (end_rv A c L ((k : Int) + 1) en _ HG.out.at_ HL.out HEN.out).mono ?_
                rintro r w9 ⟨rfl, h9⟩
                subst w9
                go_wp2
                go_loopw [9, 10] (GxRel L k b wr) (fun _ i _ => 64 - (intOf i).toNat)
                case atStart => exact ⟨0, false, by omega, rfl, rfl, (fun h => by cases h), fun _ => HD0.out, rfl⟩
                case round =>
                  obtain ⟨x, s, hx, rfl, rfl, hs1, hs0, hwx⟩ := hrel
                  subst hwx
                  have HS1 := Lib.hid hs1
                  have HS0 := Lib.hid hs0
                  clear hs1 hs0
                  cases s with
                  | true =>
                    have HDC := Lib.hid (HS1.out rfl)
                    by_cases hlx : (x : Int) < 64
                    · go_wp2_with (refine wpList_load_row rfl 54 (.tmp 4) rfl (w.heap.size + 1) rfl 54 (matA m) (0, 0) _ HG.out.bx Try.underlying54 rfl (rmatInfo m) ?_)
                      refine (rput_yes m k b _ HI.out.ok (by have := HKN.out; omega) (by have := HBN.out; omega) HNE.out).mono ?_
                      rintro r w9 ⟨rfl, hb9⟩
                      have HG9 := Lib.hid (HG.out.below hb9)
                      clear hb9
                      go_wp2_with (refine wpList_store_row rfl 54 (.tmp 4) (.tmp 73) rfl (w.heap.size + 1) (matA (Mm.put m k b)) rfl rfl 54 _ HG9.out.bx (rmatInfo _) (by rw [matA_size, matA_size]) (matA_one _) ?_)
                      have HG2 := Lib.hid (HG9.out.put (m' := Mm.put m k b) HQ.out H.out)
                      have HI2 := Lib.hid (gd_put HI.out HKN.out.1 HBN.out.1 HKN.out.2 HNE.out HDC.out)
                      generalize World.setRow _ (w.heap.size + 1) (matA (Mm.put m k b)) = w8 at HG2 ⊢
                      go_wp2
                      go_roundw
                      case rel => exact ⟨b + 1, _, by have := HBN.out; omega, by go_num, HG2.out, HI2.out⟩
                      case measure => simp [intOf]; have := HBN.out; omega
                    · go_wp2_with (refine wpList_load_row rfl 54 (.tmp 4) rfl (w.heap.size + 1) rfl 54 (matA m) (0, 0) _ HG.out.bx Try.underlying54 rfl (rmatInfo m) ?_)
                      refine (rput_yes m k b _ HI.out.ok (by have := HKN.out; omega) (by have := HBN.out; omega) HNE.out).mono ?_
                      rintro r w9 ⟨rfl, hb9⟩
                      have HG9 := Lib.hid (HG.out.below hb9)
                      clear hb9
                      go_wp2_with (refine wpList_store_row rfl 54 (.tmp 4) (.tmp 73) rfl (w.heap.size + 1) (matA (Mm.put m k b)) rfl rfl 54 _ HG9.out.bx (rmatInfo _) (by rw [matA_size, matA_size]) (matA_one _) ?_)
                      have HG2 := Lib.hid (HG9.out.put (m' := Mm.put m k b) HQ.out H.out)
                      have HI2 := Lib.hid (gd_put HI.out HKN.out.1 HBN.out.1 HKN.out.2 HNE.out HDC.out)
                      generalize World.setRow _ (w.heap.size + 1) (matA (Mm.put m k b)) = w8 at HG2 ⊢
                      go_wp2
                      go_roundw
                      case rel => exact ⟨b + 1, _, by have := HBN.out; omega, by go_num, HG2.out, HI2.out⟩
                      case measure => simp [intOf]; have := HBN.out; omega
                  | false =>
                    by_cases hlx : x < 64
                    · have hlx' : (x : Int) < 64 := by omega
                      have hx0 : (0 : Int) ≤ (x : Int) := by omega
                      have hmt := cell_of_row _ _ x _ _ (0, 0) HG.out.mt
                      rw [metA_get L x hlx] at hmt
                      cases hm : met L x with
                      | false =>
                        rw [hm] at hmt
                        have HDX := Lib.hid (dx_step (HS0.out rfl) (fun h => by rw [hm] at h; cases h.1))
                        clear hm
                        go_wp2
                        go_round
                        case rel => exact ⟨x + 1, false, by omega, by go_num, rfl, (fun h => by cases h), fun _ => HDX.out, rfl⟩
                        case measure => simp [intOf]; omega
                      | true =>
                        rw [hm] at hmt
                        cases ha : ahead L ((k : Int) + 1) ((b : Int) + 1) (x : Int) with
                        | false =>
                          have HDX := Lib.hid (dx_step (HS0.out rfl) (fun h => by rw [ha] at h; cases h.2))
                          have HAH := Lib.hid ha
                          clear hm ha
                          go_wp2_with fail
                          refine (ahead_val A c L ((k : Int) + 1) ((b : Int) + 1) (x : Int) _ HG.out.at_ HL.out HAH.out).mono ?_
                          rintro r w9 ⟨rfl, h9⟩
                          subst w9
                          go_wp2
                          go_round
                          case rel => exact ⟨x + 1, false, by omega, by go_num, rfl, (fun h => by cases h), fun _ => HDX.out, rfl⟩
                          case measure => simp [intOf]; omega
                        | true =>
                          have HDX := Lib.hid (show Dc L k b from .inr ⟨x, hlx, hm, ha⟩)
                          have HAH := Lib.hid ha
                          clear hm ha
                          go_wp2_with fail
                          refine (ahead_val A c L ((k : Int) + 1) ((b : Int) + 1) (x : Int) _ HG.out.at_ HL.out HAH.out).mono ?_
                          rintro r w9 ⟨rfl, h9⟩
                          subst w9
                          go_wp2
                          go_round
                          case rel => exact ⟨x + 1, true, by omega, by go_num, rfl, (fun _ => HDX.out), (fun h => by cases h), rfl⟩
                          case measure => simp [intOf]; omega
                    · have hlx' : ¬ (x : Int) < 64 := by omega
                      obtain rfl : x = 64 := by omega
                      have HDC := Lib.hid (show ¬ Dc L k b from fun h => HS0.out rfl h)
                      have HI2 := Lib.hid (gd_skip HI.out (.inr HDC.out))
                      go_wp2
                      go_roundw
                      case rel => exact ⟨b + 1, _, by have := HBN.out; omega, by go_num, HG.out, HI2.out⟩
                      case measure => simp [intOf]; have := HBN.out; omega
          · have hlb' : ¬ (b : Int) + 1 ≤ (n : Int) := by omega
            obtain rfl : b = n := by omega
            have HI2 := Lib.hid (gd_row HI.out)
            have HKB := Lib.hid HKN.out.1
            go_wp2
            go_roundw
            case rel => exact ⟨k + 1, _, by have := HKB.out; omega, by go_num, HG.out, HI2.out⟩
            case measure => simp [intOf]; have := HKB.out; omega
      · have hlt' : ¬ (k : Int) + 1 ≤ (n : Int) := by omega
        obtain rfl : k = n := by omega
        have HIE := Lib.hid (show Is m0 (Ge l) from gd_all HRW.out (by rw [HN.out]; exact HI0.out))
        go_wp2_with (first
          | (refine wpList_load_row rfl 54 (.tmp 4) rfl (w.heap.size + 1) rfl 54 (matA m0) (0, 0) _ HG0.out.bx Try.underlying54 rfl (rmatInfo m0) ?_)
          | (refine wpList_store_row rfl 54 (.tmp 2) (.tmp 75) rfl w.heap.size (matA m0) rfl rfl 54 _ HG0.out.re (rmatInfo m0) (by rw [matA_size, matA_size]) (matA_one _) ?_))
        refine bodyPost_ret (results_row_tmp rfl _ _ w.heap.size 54 (matA m0) (0, 0) _ _ (.bool true) rfl rfl (setRow_heap _ _ _ _ _ _ HG0.out.re) Try.underlying54 (rmatInfo _)) rfl ⟨m0, rfl, HIE.out, ?_⟩
        exact setRow_below HG0.out.bel (Nat.le_refl _)
end Go.Proofs.Ytcfdndppkpjleaa.Hi
