/-
  What the walks of the statements share: the arguments and what is taken of them.
-/
import Derived.Test.YtgbfdfkodocdiaaStoreAlive
import Derived.Test.YtgbfdfkodocdiaaStoreRef2
import Derived.Test.YtgbfdfkodocdiaaStoreSame
namespace Go.Proofs.Ytgbfdfkodocdiaa
open Go.RowKit St
/-- a slice that came in reads as these variables. -/
def StoreArg (w : World) (A : Option Addr) (n c : Nat) (L : List Vr) : Prop := L.length = n ∧ n ≤ c ∧ c ≤ maxLen ∧ VarsAt w A L
/-- what is put, in its box. -/
structure PutBox (w : World) (b : Nat) (x ver wr k n : Int) : Prop where
  c0 : w.cell? ⟨b, 0, none⟩ = some (.int .i64 x)
  c1 : w.cell? ⟨b, 1, none⟩ = some (.int .i64 ver)
  c2 : w.cell? ⟨b, 2, none⟩ = some (.int .i64 wr)
  c3 : w.cell? ⟨b, 3, none⟩ = some (.int .i64 k)
  c4 : w.cell? ⟨b, 4, none⟩ = some (.int .i64 n)
theorem putBox_new (w : World) (x ver wr k n : Int) (t : TypeId) : PutBox (w.alloc (.cells #[.int .i64 x, .int .i64 ver, .int .i64 wr, .int .i64 k, .int .i64 n] t)) w.heap.size x ver wr k n :=
  ⟨cell_of_row _ _ 0 _ t (0, 0) (heap_alloc_new w _), cell_of_row _ _ 1 _ t (0, 0) (heap_alloc_new w _), cell_of_row _ _ 2 _ t (0, 0) (heap_alloc_new w _), cell_of_row _ _ 3 _ t (0, 0) (heap_alloc_new w _), cell_of_row _ _ 4 _ t (0, 0) (heap_alloc_new w _)⟩
theorem PutBox.below {w w' : World} {b : Nat} {x ver wr k n : Int} (h : PutBox w b x ver wr k n) (hb : Below w.heap.size w w') : PutBox w' b x ver wr k n :=
  ⟨(hb.cell (cell_lt h.c0)).trans h.c0, (hb.cell (cell_lt h.c1)).trans h.c1, (hb.cell (cell_lt h.c2)).trans h.c2, (hb.cell (cell_lt h.c3)).trans h.c3, (hb.cell (cell_lt h.c4)).trans h.c4⟩
/-- the arguments, and the same store as the program has it. -/
structure LawSt (A T : Option Addr) (L : List Vr) (b : Nat) (x ver wr k n : Int) (w W : World) : Prop where
  arg : VarsAt W A L
  th : VarsAt W T L
  box : PutBox W b x ver wr k n
  bel : Below w.heap.size w W
theorem LawSt.below {A T : Option Addr} {L : List Vr} {b : Nat} {x ver wr k n : Int} {w W W' : World} (h : LawSt A T L b x ver wr k n w W) (hb : Below W.heap.size W W') : LawSt A T L b x ver wr k n w W' :=
  ⟨h.arg.below hb (Nat.le_refl _), h.th.below hb (Nat.le_refl _), h.box.below hb, h.bel.trans (hb.mono h.bel.size)⟩
theorem LawSt.alloc {A T : Option Addr} {L : List Vr} {b : Nat} {x ver wr k n : Int} {w W : World} (h : LawSt A T L b x ver wr k n w W) (o : Obj) : LawSt A T L b x ver wr k n w (W.alloc o) := h.below (below_new W o)
theorem theirs_slice (A : Option Addr) (c : Nat) (L : List Vr) (w : World) (h : VarsAt w A L) (hl : L.length ≤ 100) :
    Calls Try.prog 10 #[.slice A L.length c] w fun e w' => ∃ T d, e = .returned (.slice T L.length d) ∧ VarsAt w' T L ∧ Below w.heap.size w w' := by
  refine (theirs_any A c L w h hl).mono ?_
  rintro e w' ⟨v, rfl, ho, hb⟩
  obtain ⟨T, d, rfl, _, _, hv⟩ := ho.slice
  exact ⟨T, d, rfl, hv, hb⟩
theorem ours_slice (A : Option Addr) (c : Nat) (L : List Vr) (w : World) (h : VarsAt w A L) (hl : L.length ≤ 100) :
    Calls Try.prog 21 #[.slice A L.length c] w fun e w' => ∃ T d, e = .returned (.slice T L.length d) ∧ VarsAt w' T L ∧ Below w.heap.size w w' := by
  refine (ours_any A c L w h hl).mono ?_
  rintro e w' ⟨v, rfl, ho, hb⟩
  obtain ⟨T, d, rfl, _, _, hv⟩ := ho.slice
  exact ⟨T, d, rfl, hv, hb⟩
theorem drop_slice (A : Option Addr) (c : Nat) (L : List Vr) (s : Int) (w : World) (h : VarsAt w A L) (hl : L.length ≤ 100) (hs : i64p s) :
    Calls Try.prog 22 #[.slice A L.length c, .int .i64 s] w fun e w' => ∃ T d, e = .returned (.slice T L.length d) ∧ VarsAt w' T (dropL L s) ∧ Below w.heap.size w w' := by
  refine (drop_any A c L s w h hl hs.1 hs.2).mono ?_
  rintro e w' ⟨v, rfl, ho, hb⟩
  obtain ⟨T, d, rfl, _, _, hv⟩ := ho.slice
  exact ⟨T, d, by unfold dropL; rw [List.length_map], hv, hb⟩
theorem rdrop_slice (A : Option Addr) (c : Nat) (L : List Vr) (s : Int) (w : World) (h : VarsAt w A L) (hl : L.length ≤ 100) (hs : i64p s) :
    Calls Try.prog 23 #[.slice A L.length c, .int .i64 s] w fun e w' => ∃ T d, e = .returned (.slice T L.length d) ∧ VarsAt w' T (dropL L s) ∧ Below w.heap.size w w' := by
  refine (rdrop_any A c L s w h hl hs.1 hs.2).mono ?_
  rintro e w' ⟨v, rfl, ho, hb⟩
  obtain ⟨T, d, rfl, _, _, hv⟩ := ho.slice
  exact ⟨T, d, by unfold dropL; rw [List.length_map], hv, hb⟩
theorem putL_len (L : List Vr) (x k n ver wr : Int) : (putL L x k n ver wr).length = L.length := by unfold putL; split <;> simp
theorem markL_len (L : List Vr) (x s : Int) : (markL L x s).length = L.length := by unfold markL; split <;> simp
theorem dropL_len (L : List Vr) (s : Int) : (dropL L s).length = L.length := by unfold dropL; simp
/-- the box of what is put, laid first. -/
def boxed (w : World) (x ver wr k n : Int) : World := w.alloc (.cells #[.int .i64 x, .int .i64 ver, .int .i64 wr, .int .i64 k, .int .i64 n] 26)
theorem law_start {w w1 w2 : World} {A T : Option Addr} {L : List Vr} {x ver wr k n : Int} (h : VarsAt w A L) (b1 : Below (boxed w x ver wr k n).heap.size (boxed w x ver wr k n) w1) (b2 : Below w1.heap.size w1 w2) (ht : VarsAt w2 T L) :
    LawSt A T L w.heap.size x ver wr k n w w2 := by
  have hb := b1.trans (b2.mono b1.size)
  have hn := below_new w (.cells #[.int .i64 x, .int .i64 ver, .int .i64 wr, .int .i64 k, .int .i64 n] 26)
  exact ⟨(h.below hn (Nat.le_refl _)).below hb (Nat.le_refl _), ht, (putBox_new w x ver wr k n 26).below hb, hn.trans (hb.mono hn.size)⟩
theorem law_mid {w w1 : World} {A : Option Addr} {L : List Vr} {x ver wr k n : Int} (h : VarsAt w A L) (b1 : Below (boxed w x ver wr k n).heap.size (boxed w x ver wr k n) w1) : VarsAt w1 A L :=
  (h.below (below_new w _) (Nat.le_refl _)).below b1 (Nat.le_refl _)
theorem law_below {w w1 : World} {x ver wr k n : Int} (b1 : Below (boxed w x ver wr k n).heap.size (boxed w x ver wr k n) w1) : Below w.heap.size w w1 := by
  have hn := below_new w (.cells #[.int .i64 x, .int .i64 ver, .int .i64 wr, .int .i64 k, .int .i64 n] 26)
  exact hn.trans (b1.mono hn.size)
end Go.Proofs.Ytgbfdfkodocdiaa
