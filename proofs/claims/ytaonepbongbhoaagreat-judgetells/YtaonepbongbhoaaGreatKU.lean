/-
  Contracts of Committed, of the document's, and of the comparison of entries.
  The statements' first question: answers that the document fixes.
  Contracts of the statements' Entries and Ours: rows of entries, each with its steps.
  The document's comparison of rows of entries that are the same; heavy.
  What the walks of the statements share: the arguments, and contracts in the form that these want.
  Contracts of the document's has, Does and All.
-/
import Derived.Test.YtaonepbongbhoaaGreatKC
import Derived.Deep.QuietTactic
import Derived.BigQuiet
import Derived.Test.YtaonepbongbhoaaGreatKJ
import Derived.Test.YtaonepbongbhoaaGreatKK
import Derived.Laws.StructEq
namespace Go.Proofs.YtaonepbongbhoaaGreat.Rp
open Go.RowKit Tx
theorem slat_set {w : World} {A : Option Addr} {c : Nat} {L : List Sp} {b : Nat} (h : SlAt w A c L) (hf : ∀ ad, A = some ad → ad.block ≠ b) (i : Nat) (v : Value) : SlAt (w.setCell ⟨b, i, none⟩ v) A c L :=
  ⟨⟨fun hl => by
    obtain ⟨ad, e, hc⟩ := h.at_.cell hl
    exact ⟨ad, e, fun j u hu => (World.cell?_of_block (a := ad.add j) (Below.heap_setCell _ _ _ _ (by rw [add_block]; exact hf ad e))).trans (hc j u hu)⟩, h.at_.ok⟩, h.le, h.max⟩
theorem box_set3 {w : World} {b : Nat} {t : TypeId} {x : Xc} (h : BoxX w b t x) (A : Option Addr) (c : Nat) : BoxX (w.setCell ⟨b, 3, none⟩ (.slice A x.e.rd.length c)) b t ⟨x.e, A, c, x.B, x.d⟩ := by
  have h2 : Blk w b (entA x) t := h.is
  have := h2.set 3 (.slice A x.e.rd.length c)
  exact ⟨this⟩
theorem box_set4 {w : World} {b : Nat} {t : TypeId} {x : Xc} (h : BoxX w b t x) (B : Option Addr) (d : Nat) : BoxX (w.setCell ⟨b, 4, none⟩ (.slice B x.e.wt.length d)) b t ⟨x.e, x.A, x.c, B, d⟩ := by
  have h2 : Blk w b (entA x) t := h.is
  have := h2.set 4 (.slice B x.e.wt.length d)
  exact ⟨this⟩
def ItRelF (t : TypeId) (L : List Ent) (w : World) (v i : Value) (wr : World) : Prop := ∃ (k : Nat) (X : List Xc), k ≤ L.length ∧ i = .int .i64 k ∧ OwnI t wr w.heap.size v X ((L.take k).filter (·.com)) ∧ Below w.heap.size w wr
theorem filt_yes {L : List Ent} {k : Nat} {e : Ent} (h : L[k]? = some e) (hc : e.com = true) : (L.take (k + 1)).filter (·.com) = (L.take k).filter (·.com) ++ [e] := by
  rw [Rn.step_take h, List.filter_append]; simp [hc]
theorem filt_no {L : List Ent} {k : Nat} {e : Ent} (h : L[k]? = some e) (hc : e.com = false) : (L.take (k + 1)).filter (·.com) = (L.take k).filter (·.com) := by
  rw [Rn.step_take h, List.filter_append]; simp [hc]
end Go.Proofs.YtaonepbongbhoaaGreat.Rp
namespace Go.Proofs.YtaonepbongbhoaaGreat.Rp
open Go.RowKit Tx Az
theorem at_blk {α : Type} (E : Rn.Enc α) {w : World} {b : Nat} {c : Array Value} {t : TypeId} {L : List α} (h : w.heap[b]? = some (.cells c t (0, 0))) (hc : c.toList = Rn.flat E L) : Rn.At E w (some ⟨b, 0, none⟩) L :=
  ⟨fun _ => ⟨_, rfl, fun j u hu => by
    have hadd : (⟨b, 0, none⟩ : Addr).add j = ⟨b, j, none⟩ := by unfold Addr.add; split <;> simp_all
    rw [hadd, cell_of_row _ b j c t (0, 0) h]
    rw [← hc] at hu
    simpa using hu⟩⟩
theorem vars_one {w : World} {b : Nat} {t : TypeId} {s : Sp} (h : w.heap[b]? = some (.cells (stepA s) t (0, 0))) (hs : s.ok) : VarsAt w (some ⟨b, 0, none⟩) [s] :=
  ⟨fun _ => ⟨_, rfl, fun j u hu => by
    have hadd : (⟨b, 0, none⟩ : Addr).add j = ⟨b, j, none⟩ := by unfold Addr.add; split <;> simp_all
    rw [hadd, cell_of_row _ b j _ t (0, 0) h]
    simpa [flat, cellsOf, stepA] using hu⟩, fun x hx => by simp at hx; subst hx; exact hs⟩
def rd1s : Sp := ⟨0, 1, 1, false⟩
def wr1s : Sp := ⟨0, 1, 1, true⟩
theorem rd1s_ok : rd1s.ok := by refine ⟨⟨?_, ?_⟩, ⟨?_, ?_⟩, ⟨?_, ?_⟩⟩ <;> decide
theorem wr1s_ok : wr1s.ok := by refine ⟨⟨?_, ?_⟩, ⟨?_, ?_⟩, ⟨?_, ?_⟩⟩ <;> decide
def eA : Ent := ⟨0, true, false, [], [wr1s]⟩
def eB : Ent := ⟨0, false, false, [rd1s], []⟩
def xA (b : Nat) : Xc := ⟨eA, none, 0, some ⟨b, 0, none⟩, 1⟩
def xB (b : Nat) : Xc := ⟨eB, some ⟨b, 0, none⟩, 1, none, 0⟩
theorem few_two : few [eA, eB] := fun e he => by simp at he; rcases he with rfl | rfl <;> decide
theorem sl_nil (w : World) : SlAt w none 0 [] := ⟨VarsAt.none_ _ _, Nat.le_refl _, by decide⟩
theorem xA_rd {w : World} {b : Nat} (h : VarsAt w (some ⟨b, 0, none⟩) [wr1s]) : RdX w (xA b) := ⟨sl_nil w, ⟨h, Nat.le_refl _, show (1 : Nat) ≤ maxLen by decide⟩⟩
theorem xB_rd {w : World} {b : Nat} (h : VarsAt w (some ⟨b, 0, none⟩) [rd1s]) : RdX w (xB b) := ⟨⟨h, Nat.le_refl _, show (1 : Nat) ≤ maxLen by decide⟩, sl_nil w⟩
theorem all_two : allS [(1, 0)] [eA, eB] = [(1, 1)] ∧ allN [(1, 0)] [eA, eB] = -1 := by decide
theorem fits_b : fits [(1, 0)] eB = false ∧ doS [(1, 0)] eB = [(1, 0)] := by decide
def e0 : Ent := ⟨0, false, false, [], []⟩
def e1 : Ent := ⟨0, true, false, [], []⟩
def x0 : Xc := ⟨e0, none, 0, none, 0⟩
def x1 : Xc := ⟨e1, none, 0, none, 0⟩
theorem al_ents2 (w : World) : ItAt (w.alloc (.cells #[.int .i64 0, .bool false, .bool false, .slice none 0 0, .slice none 0 0, .int .i64 0, .bool true, .bool false, .slice none 0 0, .slice none 0 0] 109)) (some ⟨w.heap.size, 0, none⟩) [x0, x1] [e0, e1] :=
  ⟨at_blk encX (heap_alloc_new w _) rfl, rfl, fun x hx => by simp at hx; rcases hx with rfl | rfl <;> exact ⟨sl_nil _, sl_nil _⟩⟩
theorem few_zero : few [e0, e1] := fun e he => by simp at he; rcases he with rfl | rfl <;> decide
/-- what the last question reads. -/
structure AL (w : World) (g1 g2 o1 : Nat) (W : World) : Prop where
  n0 : W.cell? ⟨g1, 0, none⟩ = some (.int .i64 1)
  a0 : W.cell? ⟨g2, 0, none⟩ = some (.int .i64 1)
  a1 : W.cell? ⟨g2, 1, none⟩ = some (.int .i64 1)
  o0 : W.cell? ⟨o1, 0, none⟩ = some (.int .i64 1)
  o1 : W.cell? ⟨o1, 1, none⟩ = some (.int .i64 1)
  bel : Below w.heap.size w W
theorem AL.below {w : World} {g1 g2 o1 : Nat} {W W' : World} (h : AL w g1 g2 o1 W) (hb : Below W.heap.size W W') : AL w g1 g2 o1 W' :=
  ⟨(hb.cell (cell_lt h.n0)).trans h.n0, (hb.cell (cell_lt h.a0)).trans h.a0, (hb.cell (cell_lt h.a1)).trans h.a1, (hb.cell (cell_lt h.o0)).trans h.o0, (hb.cell (cell_lt h.o1)).trans h.o1, h.bel.trans (hb.mono h.bel.size)⟩
theorem cl_one : cl 1 = 1 := by decide
theorem al_begin (w : World) : Calls Tryz.prog 60 #[.int .i64 1] w fun e w' => ∃ g c, e = .returned (.slice (some ⟨g, 0, none⟩) 1 c) ∧ Rn.Own encV w' w.heap.size 36 (.slice (some ⟨g, 0, none⟩) 1 c) [(1, 0)] ∧ Below w.heap.size w w' := by
  refine (begin_any 1 w).mono ?_
  rintro e w' ⟨v, rfl, ho, hb⟩
  rw [cl_one] at ho
  obtain ⟨g, c, rfl⟩ := own_open ho (by decide)
  exact ⟨g, c, rfl, ho, hb⟩
theorem own_at {w : World} {base g c n : Nat} {t : TypeId} {L : List Vp} (h : Rn.Own encV w base t (.slice (some ⟨g, 0, none⟩) n c) L) : Rn.At encV w (some ⟨g, 0, none⟩) L := by
  obtain ⟨A, d, e, _, _, h1, _⟩ := h.slice
  have := (Value.slice.inj e).1
  rw [this]; exact h1
theorem al_all (g c b : Nat) (A0 B0 : Nat) (w : World) (hA : Rn.At encV w (some ⟨g, 0, none⟩) [(1, 0)]) (hX : ItAt w (some ⟨b, 0, none⟩) [xA A0, xB B0] [eA, eB]) :
    Calls Tryz.prog 59 #[.slice (some ⟨g, 0, none⟩) 1 c, .slice (some ⟨b, 0, none⟩) 2 2] w fun e w' => ∃ g2 c2, e = .returned (.tuple #[.slice (some ⟨g2, 0, none⟩) 1 c2, .int .i64 (-1)]) ∧ Rn.Own encV w' w.heap.size 36 (.slice (some ⟨g2, 0, none⟩) 1 c2) [(1, 1)] ∧ Below w.heap.size w w' := by
  refine (all_any _ _ c 2 [(1, 0)] _ [eA, eB] w hA hX few_two (by decide) (by decide)).mono ?_
  rintro e w' ⟨v, rfl, ho, hb⟩
  rw [all_two.1] at ho
  rw [all_two.2]
  obtain ⟨g, c, rfl⟩ := own_open ho (by decide)
  exact ⟨g, c, rfl, ho, hb⟩
structure Al4 (wa W : World) : Prop where
  one : Blk W wa.heap.size #[.int .i64 1, .int .i64 1] 36
  ents : ItAt W (some ⟨wa.heap.size + 1 + 1 + 1, 0, none⟩) [xA (wa.heap.size + 1), xB (wa.heap.size + 1 + 1)] [eA, eB]
  bel : Below wa.heap.size wa W
theorem al4 (wa : World) : Al4 wa ((((wa.alloc (.cells #[.int .i64 1, .int .i64 1] 36)).alloc (.cells #[.int .i64 0, .int .i64 1, .int .i64 1, .bool true] 149)).alloc (.cells #[.int .i64 0, .int .i64 1, .int .i64 1, .bool false] 149)).alloc (.cells #[.int .i64 0, .bool true, .bool false, .slice none 0 0, .slice (some ⟨wa.heap.size + 1, 0, none⟩) 1 1, .int .i64 0, .bool false, .bool false, .slice (some ⟨wa.heap.size + 1 + 1, 0, none⟩) 1 1, .slice none 0 0] 109)) := by
  have h1 := Blk.new wa #[.int .i64 1, .int .i64 1] 36
  have h2 := Blk.new' (W := wa.alloc (.cells #[.int .i64 1, .int .i64 1] 36)) (b := wa.heap.size + 1) (by simp) (stepA wr1s) 149
  have h3 := Blk.new' (W := (wa.alloc (.cells #[.int .i64 1, .int .i64 1] 36)).alloc (.cells (stepA wr1s) 149)) (b := wa.heap.size + 1 + 1) (by simp) (stepA rd1s) 149
  refine ⟨((h1.alloc _).alloc _).alloc _, ⟨at_blk encX (c := #[.int .i64 0, .bool true, .bool false, .slice none 0 0, .slice (some ⟨wa.heap.size + 1, 0, none⟩) 1 1, .int .i64 0, .bool false, .bool false, .slice (some ⟨wa.heap.size + 1 + 1, 0, none⟩) 1 1, .slice none 0 0]) (t := 109) (Blk.new' (by simp) _ _) rfl, rfl, fun x hx => ?_⟩, (((below_new _ _).alloc (by simp) _).alloc (by simp; omega) _).alloc (by simp; omega) _⟩
  simp at hx
  rcases hx with rfl | rfl
  · exact xA_rd (vars_one (t := 149) ((h2.alloc _).alloc _) wr1s_ok)
  · exact xB_rd (vars_one (t := 149) (h3.alloc _) rd1s_ok)
theorem al_step (w : World) : VarsAt (w.alloc (.cells #[.int .i64 0, .int .i64 1, .int .i64 1, .bool false] 149)) (some ⟨w.heap.size, 0, none⟩) [rd1s] := vars_one (t := 149) (Blk.new w (stepA rd1s) 149) rd1s_ok
end Go.Proofs.YtaonepbongbhoaaGreat.Rp
namespace Go.Proofs.YtaonepbongbhoaaGreat.Rp
open Go.RowKit Tx Az
end Go.Proofs.YtaonepbongbhoaaGreat.Rp
namespace Go.Proofs.YtaonepbongbhoaaGreat.Rp
open Go.RowKit Tx
def DrRel (n : Nat) (w : World) (i : Value) (wr : World) : Prop := ∃ k m : Nat, k ≤ n ∧ i = .int .i64 k ∧ wr = w.drewN m
theorem at4_drew {w : World} {A : Option Addr} {L : List Sp} (h : VarsAt w A L) (n : Nat) : VarsAt (w.drewN n) A L := h.below (Tx.below_drewN _ w n) (Nat.le_refl _)
/-- are these too many to be asked? -/
def heavy (n : Nat) (l : List Ent) : Bool := l.any (fun e => decide (300 < e.rd.length) || decide (300 < e.wt.length)) || decide (100 < n) || decide (100 < l.length)
theorem heavy_no {n : Nat} {l : List Ent} (h : heavy n l = false) : few l ∧ n ≤ 100 ∧ l.length ≤ 100 := by
  unfold heavy at h
  simp only [Bool.or_eq_false_iff, decide_eq_false_iff_not, List.any_eq_false] at h
  refine ⟨fun e he => ?_, by omega, by omega⟩
  have := h.1.1 e he
  simp at this
  omega
def HvRel (l : List Ent) (w : World) (i : Value) (wr : World) : Prop := ∃ k : Nat, k ≤ l.length ∧ i = .int .i64 k ∧ Below w.heap.size w wr ∧ ∀ e ∈ l.take k, e.rd.length ≤ 300 ∧ e.wt.length ≤ 300
end Go.Proofs.YtaonepbongbhoaaGreat.Rp
namespace Go.Proofs.YtaonepbongbhoaaGreat.Rp
open Go.RowKit Tx
/-- a slice that came in reads as these values. -/
def ValArg (w : World) (A : Option Addr) (n c : Nat) (L : List Vp) : Prop := L.length = n ∧ n ≤ c ∧ c ≤ maxLen ∧ Rn.At encV w A L ∧ ∀ v ∈ L, i64p v.1 ∧ i64p v.2
/-- a slice that came in reads as these entries, each with its steps. -/
def EntArg (w : World) (A : Option Addr) (n c : Nat) (X : List Xc) : Prop := X.length = n ∧ n ≤ c ∧ c ≤ maxLen ∧ Rn.At encX w A X ∧ (∀ x ∈ X, RdX w x) ∧ (A = none → c = 0)
theorem EntArg.open_ {w : World} {A : Option Addr} {n c : Nat} {X : List Xc} (h : EntArg w A n c X) : ∃ L, n = L.length ∧ L.length ≤ c ∧ c ≤ maxLen ∧ ItAt w A X L ∧ (A = none → c = 0) :=
  ⟨X.map (·.e), by rw [List.length_map]; exact h.1.symm, by rw [List.length_map, h.1]; exact h.2.1, h.2.2.1, ⟨h.2.2.2.1, rfl, h.2.2.2.2.1⟩, h.2.2.2.2.2⟩
def VlS (S : List Vp) (w : World) (x : Ending) (w' : World) : Prop := ∃ B d, x = .returned (.slice B S.length d) ∧ Rn.At encV w' B S ∧ Below w.heap.size w w'
theorem VlPost.s {S : List Vp} {e : TypeId} {w : World} {x : Ending} {w' : World} (h : VlPost S e w x w') : VlS S w x w' := by
  obtain ⟨v, rfl, ho, hb⟩ := h
  obtain ⟨B, d, rfl, _, _, hA, _⟩ := ho.slice
  exact ⟨B, d, rfl, hA, hb⟩
def ItS (L : List Ent) (w : World) (x : Ending) (w' : World) : Prop := ∃ B d X, x = .returned (.slice B L.length d) ∧ L.length ≤ d ∧ d ≤ maxLen ∧ ItAt w' B X L ∧ Below w.heap.size w w'
theorem ItPost.s {t : TypeId} {L : List Ent} {w : World} {x : Ending} {w' : World} (h : ItPost t L w x w') : ItS L w x w' := by
  obtain ⟨v, X, rfl, ho, hb⟩ := h
  obtain ⟨B, d, rfl, h1, h2, hA⟩ := ho.slice
  exact ⟨B, d, X, rfl, h1, h2, hA, hb⟩
def AllSp (S2 : List Vp) (n : Int) (w : World) (x : Ending) (w' : World) : Prop := ∃ B d, x = .returned (.tuple #[.slice B S2.length d, .int .i64 n]) ∧ Rn.At encV w' B S2 ∧ Below w.heap.size w w'
theorem all_s (A B : Option Addr) (c d : Nat) (S S2 : List Vp) (n : Int) (X : List Xc) (l : List Ent) (w : World) (hA : Rn.At encV w A S) (hX : ItAt w B X l) (hf : few l) (hl : l.length ≤ 10000) (hS : S.length ≤ 300) (h1 : allS S l = S2) (h2 : allN S l = n) :
    Calls Tryz.prog 59 #[.slice A S.length c, .slice B l.length d] w (AllSp S2 n w) := by
  subst h1; subst h2
  refine (all_any A B c d S X l w hA hX hf hl hS).mono ?_
  rintro e w' ⟨v, rfl, ho, hb⟩
  obtain ⟨B, d, rfl, _, _, hA, _⟩ := ho.slice
  exact ⟨B, d, rfl, hA, hb⟩
def DoesSp (S2 : List Vp) (b : Bool) (w : World) (x : Ending) (w' : World) : Prop := ∃ B d, x = .returned (.tuple #[.slice B S2.length d, .bool b]) ∧ Rn.At encV w' B S2 ∧ Below w.heap.size w w'
theorem ItAt.take {w : World} {A : Option Addr} {X : List Xc} {L : List Ent} (h : ItAt w A X L) (k : Nat) : ItAt w A (X.take k) (L.take k) :=
  ⟨h.row.take k, by rw [List.map_take, h.es], fun x hx => h.rd x (List.mem_of_mem_take hx)⟩
theorem ItAt.drop {w : World} {ad : Addr} {X : List Xc} {L : List Ent} (h : ItAt w (some ad) X L) (k : Nat) : ItAt w (some (ad.add (k * 5))) (X.drop k) (L.drop k) :=
  ⟨h.row.drop k, by rw [List.map_drop, h.es], fun x hx => h.rd x (List.mem_of_mem_drop hx)⟩
theorem ItAt.empty (w : World) (A : Option Addr) : ItAt w A [] [] := ⟨Rn.At.nil _ _, rfl, by simp⟩
theorem few_take {L : List Ent} (h : few L) (k : Nat) : few (L.take k) := fun e he => h e (List.mem_of_mem_take he)
theorem few_drop {L : List Ent} (h : few L) (k : Nat) : few (L.drop k) := fun e he => h e (List.mem_of_mem_drop he)
theorem few_filter {L : List Ent} (h : few L) : few (L.filter (·.com)) := fun e he => h e (List.mem_filter.1 he).1
theorem allN_some {S : List Vp} {L : List Ent} {k : Nat} (h : allI S L = some k) : allN S L = (k : Nat) := by unfold allN; rw [h]
theorem allN_none {S : List Vp} {L : List Ent} (h : allI S L = none) : allN S L = -1 := by unfold allN; rw [h]
theorem allN_le (S : List Vp) (L : List Ent) : allN S L ≤ (L.length : Int) ∧ -1 ≤ allN S L := by
  cases h : allI S L with
  | none => rw [allN_none h]; omega
  | some k => rw [allN_some h]; have := allI_lt h; omega
theorem few_twice {L : List Ent} (h : few L) : few (L ++ L) := fun e he => by
  rcases List.mem_append.1 he with h1 | h1 <;> exact h e h1
theorem ge_of {a : Int} (h : 0 ≤ a) : a ≥ 0 := h
/-- facts that go on by '.below' alone. -/
structure VK (A : Option Addr) (L : List Vp) (W : World) : Prop where
  at_ : Rn.At encV W A L
theorem VK.below {A : Option Addr} {L : List Vp} {W W' : World} (h : VK A L W) (hb : Below W.heap.size W W') : VK A L W' := ⟨h.at_.below hb (Nat.le_refl _)⟩
structure IK (A : Option Addr) (X : List Xc) (L : List Ent) (W : World) : Prop where
  at_ : ItAt W A X L
theorem IK.below {A : Option Addr} {X : List Xc} {L : List Ent} {W W' : World} (h : IK A X L W) (hb : Below W.heap.size W W') : IK A X L W' := ⟨h.at_.below hb (Nat.le_refl _)⟩
/-- a whole row behind another one, also an empty one. -/
theorem append_rowG' {α : Type} (E : Rn.Enc α) {t e : TypeId} (T : Rn.VT E t e) {ops : Array Oper} {rest : List Oper} {o : Oper} {a : Act} {Q : Exit → Act → World → Prop} (hgd : o.guard = none) (s x : Operand)
    (ho : o.op = .call { callee := .builtin .append, args := #[s, x], argTypes := #[t, t] }) {W : World} {base : Nat} {v : Value} {L : List α} (hs : a.eval s = v) (hown : Rn.Own E W base e v L)
    (A : Option Addr) (c : Nat) (M : List α) {m : Nat} (hm : M.length = m) (hx : a.eval x = .slice A m c) (hM : Rn.At E W A M) (hlen : L.length + M.length ≤ 100000) (hbase : base ≤ W.heap.size)
    (h : ∀ v' w', Rn.Own E w' base e v' (L ++ M) → W.grownBy w' v.ownBlock → wpList Tryz.prog ops Q rest (a.put o.dst v') w') : wpList Tryz.prog ops Q (o :: rest) a W := by
  subst hm
  obtain ⟨v', w', hr, h2, h3⟩ := Rn.run_append E T o.type hown c hM hlen hbase
  refine wpList_plain hgd fun _ hK => ?_
  unfold Oper.wp execOp
  simp only [ho, resolve, invoke, builtin, Sem.run_bind, Sem.run_pure, Result.andThen_ok, List.map_toArray, List.map_cons, List.map_nil, hs, hx, hr]
  exact hK _ _ (h v' w' h2 h3)
/-- the arguments, in a world that only grew. -/
structure ArgSt (A B : Option Addr) (S : List Vp) (X : List Xc) (L : List Ent) (w W : World) : Prop where
  vals : Rn.At encV W A S
  ents : ItAt W B X L
  bel : Below w.heap.size w W
theorem ArgSt.below {A B : Option Addr} {S : List Vp} {X : List Xc} {L : List Ent} {w W W' : World} (h : ArgSt A B S X L w W) (hb : Below W.heap.size W W') : ArgSt A B S X L w W' :=
  ⟨h.vals.below hb (Nat.le_refl _), h.ents.below hb (Nat.le_refl _), h.bel.trans (hb.mono h.bel.size)⟩
theorem at_below {α : Type} {E : Rn.Enc α} {W W' : World} {A : Option Addr} {L : List α} (h : Rn.At E W A L) (hb : Below W.heap.size W W') : Rn.At E W' A L := h.below hb (Nat.le_refl _)
theorem it_below {W W' : World} {A : Option Addr} {X : List Xc} {L : List Ent} (h : ItAt W A X L) (hb : Below W.heap.size W W') : ItAt W' A X L := h.below hb (Nat.le_refl _)
end Go.Proofs.YtaonepbongbhoaaGreat.Rp
namespace Go.Proofs.YtaonepbongbhoaaGreat.Rp
open Go.RowKit Tx
set_option maxHeartbeats 1000000 in
theorem rhas_any (A : Option Addr) (n c : Nat) (x : Int) (w : World) (hx : i64p x) (b : Bool) (hb : (decide (0 ≤ x) && decide (x < (n : Int))) = b) :
    Calls Tryz.prog 87 #[.slice A n c, .int .i64 x] w fun e w' => e = .returned (.bool b) ∧ w' = w := by
  subst hb
  by_cases h0 : 0 ≤ x
  · have d0 : decide (0 ≤ x) = true := by simpa using h0
    rw [d0]
    by_cases h1 : x < (n : Int)
    · have d1 : decide (x < (n : Int)) = true := by simpa using h1
      rw [d1]
      go_enter Tryz.func87, Tryz.ntmps87
      go_wp2
      go_ret
      exact ⟨rfl, rfl⟩
    · have d1 : decide (x < (n : Int)) = false := by simpa using h1
      rw [d1]
      go_enter Tryz.func87, Tryz.ntmps87
      go_wp2
      go_ret
      exact ⟨rfl, rfl⟩
  · have d0 : decide (0 ≤ x) = false := by simpa using h0
    rw [d0]
    go_enter Tryz.func87, Tryz.ntmps87
    go_wp2
    go_ret
    exact ⟨rfl, rfl⟩
/-- a world that only grew out of another. -/
structure BlK (w0 W : World) : Prop where
  out : Below w0.heap.size w0 W
theorem BlK.below {w0 W W' : World} (h : BlK w0 W) (hb : Below W.heap.size W W') : BlK w0 W' := ⟨h.out.trans (hb.mono h.out.size)⟩
theorem row_one {w : World} {A : Option Addr} {x : Xc} (h : Rn.At encX w A [x]) : ∃ ad, A = some ad ∧ w.cell? ad = some (.int .i64 x.e.id) ∧ w.cell? ⟨ad.block, ad.off + 1, none⟩ = some (.bool x.e.com) ∧ w.cell? ⟨ad.block, ad.off + 2, none⟩ = some (.bool x.e.ovr) ∧ w.cell? ⟨ad.block, ad.off + 3, none⟩ = some (.slice x.A x.e.rd.length x.c) ∧ w.cell? ⟨ad.block, ad.off + 4, none⟩ = some (.slice x.B x.e.wt.length x.d) := by
  obtain ⟨ad, e, h5⟩ := at5 h (j := 0) rfl
  obtain ⟨c0, c1, c2, c3, c4⟩ := h5
  have h0 : ad.add (0 * 5) = ad := by simp [Addr.add]
  rw [h0] at c0 c1 c2 c3 c4
  exact ⟨ad, e, c0, c1, c2, c3, c4⟩
/-- what the document's Does answers. -/
def RdPost (S2 : List Vp) (b : Bool) (w : World) (x : Ending) (w' : World) : Prop := ∃ B d, x = .returned (.tuple #[.slice B S2.length d, .bool b]) ∧ S2.length ≤ d ∧ d ≤ maxLen ∧ Rn.At encV w' B S2 ∧ Below w.heap.size w w'
def NoRd (S : List Vp) (L : List Sp) (k : Nat) : Prop := ∀ j : Nat, j < k → ∀ t, L[j]? = some t → denies S t = false
def NoWt (S : List Vp) (L : List Sp) (k : Nat) : Prop := ∀ j : Nat, j < k → ∀ t, L[j]? = some t → lacks S t = false
theorem any_no {p : Sp → Bool} {L : List Sp} (h : ∀ j : Nat, j < L.length → ∀ t, L[j]? = some t → p t = false) : L.any p = false := by
  rw [List.any_eq_false]
  intro x hx
  obtain ⟨j, hj, rfl⟩ := List.getElem_of_mem hx
  simp [h j hj _ (List.getElem?_eq_getElem hj)]
theorem any_yes {p : Sp → Bool} {L : List Sp} {k : Nat} {s : Sp} (h : L[k]? = some s) (hp : p s = true) : L.any p = true := List.any_eq_true.2 ⟨s, List.mem_of_getElem? h, hp⟩
theorem not_rd {S : List Vp} {e : Ent} {k : Nat} {s : Sp} (h : e.rd[k]? = some s) (hp : denies S s = true) : fits S e = false ∧ doS S e = S := by
  have : fits S e = false := by unfold fits; rw [any_yes h hp]; rfl
  exact ⟨this, by unfold doS; rw [this]; rfl⟩
theorem not_wt {S : List Vp} {e : Ent} {k : Nat} {s : Sp} (h : e.wt[k]? = some s) (hp : lacks S s = true) : fits S e = false ∧ doS S e = S := by
  have : fits S e = false := by unfold fits; rw [any_yes h hp]; simp
  exact ⟨this, by unfold doS; rw [this]; rfl⟩
theorem yes_both {S : List Vp} {e : Ent} (h1 : NoRd S e.rd e.rd.length) (h2 : NoWt S e.wt e.wt.length) : fits S e = true ∧ doS S e = next S e := by
  have : fits S e = true := by unfold fits; rw [any_no h1, any_no h2]; rfl
  exact ⟨this, by unfold doS; rw [this]; rfl⟩
theorem no_succ {p : Sp → Bool} {L : List Sp} {k : Nat} {s : Sp} (h : ∀ j : Nat, j < k → ∀ t, L[j]? = some t → p t = false) (hs : L[k]? = some s) (hp : p s = false) : ∀ j : Nat, j < k + 1 → ∀ t, L[j]? = some t → p t = false := fun j hj t ht => by
  by_cases e : j = k
  · subst e; rw [hs] at ht; obtain rfl := Option.some.inj ht; exact hp
  · exact h j (by omega) t ht
def R1Rel (S : List Vp) (L : List Sp) (b : Nat) (x : Xc) (w : World) (i : Value) (wr : World) : Prop := ∃ k : Nat, k ≤ L.length ∧ i = .int .i64 k ∧ Aside (Below w.heap.size w wr) ∧ Aside (BoxX wr b 72 x) ∧ Aside (NoRd S L k)
def R2Rel (S : List Vp) (L : List Sp) (b : Nat) (x : Xc) (w : World) (i : Value) (wr : World) : Prop := ∃ k : Nat, k ≤ L.length ∧ i = .int .i64 k ∧ Aside (Below w.heap.size w wr) ∧ Aside (BoxX wr b 72 x) ∧ Aside (NoWt S L k)
def R3Rel (S : List Vp) (L : List Sp) (b : Nat) (x : Xc) (w : World) (v i : Value) (wr : World) : Prop := ∃ (k : Nat) (B : Option Addr) (d : Nat), k ≤ L.length ∧ i = .int .i64 k ∧ v = .slice B (put S (L.take k)).length d ∧ (put S (L.take k)).length ≤ d ∧ d ≤ maxLen ∧ Aside (Rn.At encV wr B (put S (L.take k))) ∧ Aside (Below w.heap.size w wr) ∧ Aside (BoxX wr b 72 x)
set_option maxHeartbeats 4000000 in
set_option maxRecDepth 100000 in
theorem rdoes_any (A : Option Addr) (c : Nat) (S : List Vp) (x : Xc) (w : World) (hA : Rn.At encV w A S) (hx : RdX w x) (h1 : x.e.rd.length ≤ 300) (h2 : x.e.wt.length ≤ 300) (hS : S.length ≤ 300) (hc : S.length ≤ c) (hcm : c ≤ maxLen) :
    Calls Tryz.prog 66 #[.slice A S.length c, .agg #[.int .i64 x.e.id, .bool x.e.com, .bool x.e.ovr, .slice x.A x.e.rd.length x.c, .slice x.B x.e.wt.length x.d]] w (RdPost (doS S x.e) (fits S x.e) w) := by
  have HA := Lib.hid hA
  have HX := Lib.hid hx
  have HC := Lib.hid (show S.length ≤ c ∧ c ≤ maxLen from ⟨hc, hcm⟩)
  have HX0 := Lib.hid (BoxX.new w 72 x)
  have HS0 := Lib.hid (below_new w (.cells (entA x) 72))
  unfold entA at HX0 HS0
  unfold RdPost
  generalize hf : fits S x.e = f
  generalize hd : doS S x.e = S2
  have HF := Lib.hid hf
  have HD := Lib.hid hd
  clear hA hx hc hcm hf hd
  go_enter Tryz.func66, Tryz.ntmps66
  go_wp2
  go_loopw [6] (R1Rel S x.e.rd w.heap.size x w) (fun i _ => x.e.rd.length - (intOf i).toNat)
  case atStart => exact ⟨0, Nat.zero_le _, rfl, HS0.out, HX0.out, fun j hj => absurd hj (Nat.not_lt_zero _)⟩
  case round =>
    obtain ⟨k, hk, rfl, HW, HBX, HN⟩ := hrel
    have b3 := HBX.out.c3
    by_cases hlt : k < x.e.rd.length
    · obtain ⟨ad, s, hB, hs, hok, h5⟩ := (HX.out.below HW.out (Nat.le_refl _)).rd.at_.at_ hlt
      obtain ⟨c0, c1, c2, c3⟩ := h5
      rw [hB] at b3
      have HSS := Lib.hid hs
      have HOK := Lib.hid hok
      have HBN := Lib.hid (below_new wr (.cells (stepA s) 117))
      have HST := Lib.hid (stepAt_new wr s 117)
      unfold stepA at HBN HST
      have hlt' : (k : Int) < (x.e.rd.length : Int) := by omega
      have h0 : (0 : Int) ≤ (k : Int) := by omega
      clear hs hok hB
      go_wp2
      obtain ⟨w1, hw1⟩ : ∃ w1, w1 = wr.alloc (.cells #[.int .i64 s.x, .int .i64 s.k, .int .i64 s.n, .bool s.wr] 117) := ⟨_, rfl⟩
      rw [← hw1] at HBN HST ⊢
      clear hw1 c0 c1 c2 c3 b3
      have s0 : w1.cell? ⟨wr.heap.size, 0, none⟩ = some (.int .i64 s.x) := HST.out.c0
      have s1 : w1.cell? ⟨wr.heap.size, 1, none⟩ = some (.int .i64 s.k) := HST.out.c1
      have s2 : w1.cell? ⟨wr.heap.size, 2, none⟩ = some (.int .i64 s.n) := HST.out.c2
      have HW1 := Lib.hid (HW.out.trans (HBN.out.mono HW.out.size))
      have HBX1 := Lib.hid (HBX.out.below HBN.out HBX.out.lt)
      cases hh : has S s.x with
      | false =>
        have hden : denies S s = true := by unfold denies lacks; rw [hh]; rfl
        obtain ⟨e1, e2⟩ := not_rd HSS.out hden
        have e3 := HF.out.symm.trans e1
        have e4 := HD.out.symm.trans e2
        subst e3; subst e4
        have HH := Lib.hid hh
        clear hh hden e1 e2
        go_quiet ((go_at_call 87; exact Calls.quiet_of_same (rhas_any _ _ _ _ _ HOK.out.1 false HH.out)))
        go_wp2
        go_ret2
        exact ⟨A, c, rfl, HC.out.1, HC.out.2, HA.out.below (HW1.out.trans (Tx.below_drewN _ _ _)) (Nat.le_refl _), HW1.out.trans (Tx.below_drewN _ _ _)⟩
      | true =>
        obtain ⟨q0, q1⟩ := (has_iff S s.x).1 hh
        obtain ⟨j, hj⟩ := Int.eq_ofNat_of_zero_le q0
        have hjl : j < S.length := by omega
        obtain ⟨v, hv⟩ : ∃ v, S[j]? = some v := ⟨_, List.getElem?_eq_getElem hjl⟩
        obtain ⟨ad2, hA2, v0, v1⟩ := at2 (HA.out.below HW1.out (Nat.le_refl _)) hv
        have hat : at_ S s.x = some v := by unfold at_; rw [if_pos q0, hj]; exact hv
        have hden : denies S s = decide (v ≠ (s.k, s.n)) := by
          unfold denies lacks; rw [hh, hat]; simp
        have HH := Lib.hid hh
        have HDE := Lib.hid hden
        clear hh hden hat hv
        have HHJ := Lib.hid (show (decide (0 ≤ (j : Int)) && decide ((j : Int) < (S.length : Int))) = true by simp; omega)
        have hji : (j : Int) < (S.length : Int) := by omega
        have hj0 : (0 : Int) ≤ (j : Int) := by omega
        rw [hj] at s0
        have HOKJ := Lib.hid (show i64p (j : Int) by have := HOK.out.1; rwa [hj] at this)
        have HJ := Lib.hid hj
        subst hA2
        clear q0 q1 hj
        by_cases he : v = (s.k, s.n)
        · have hno : denies S s = false := by rw [HDE.out]; simp [he]
          have e0 : v.1 = s.k := by rw [he]
          have e1 : v.2 = s.n := by rw [he]
          rw [e0] at v0
          rw [e1] at v1
          have HNO := Lib.hid hno
          clear hno he e0 e1
          go_quiet ((go_at_call 87; exact Calls.quiet_of_same (rhas_any _ _ _ _ _ HOKJ.out true HHJ.out)))
          go_wp2
          go_roundw
          case rel => exact ⟨k + 1, by omega, by go_num, HW1.out.trans (Tx.below_drewN _ _ _), HBX1.out.below (Tx.below_drewN (w1.heap.size) w1 _) HBX1.out.lt, no_succ HN.out HSS.out HNO.out⟩
          case measure => simp [intOf]; omega
        · have hyes : denies S s = true := by rw [HDE.out]; simp [he]
          obtain ⟨e1, e2⟩ := not_rd HSS.out hyes
          have e3 := HF.out.symm.trans e1
          have e4 := HD.out.symm.trans e2
          subst e3; subst e4
          by_cases h1 : v.1 = s.k
          · have g1 : ¬ v.2 = s.n := fun h2 => he (by obtain ⟨a, b⟩ := v; simp at h1 h2; rw [h1, h2])
            rw [h1] at v0
            clear he hyes e1 e2 h1
            go_quiet ((go_at_call 87; exact Calls.quiet_of_same (rhas_any _ _ _ _ _ HOKJ.out true HHJ.out)))
            go_wp2
            go_ret2
            exact ⟨some ad2, c, rfl, HC.out.1, HC.out.2, HA.out.below (HW1.out.trans (Tx.below_drewN _ _ _)) (Nat.le_refl _), HW1.out.trans (Tx.below_drewN _ _ _)⟩
          · clear he hyes e1 e2
            go_quiet ((go_at_call 87; exact Calls.quiet_of_same (rhas_any _ _ _ _ _ HOKJ.out true HHJ.out)))
            go_wp2
            go_ret2
            exact ⟨some ad2, c, rfl, HC.out.1, HC.out.2, HA.out.below (HW1.out.trans (Tx.below_drewN _ _ _)) (Nat.le_refl _), HW1.out.trans (Tx.below_drewN _ _ _)⟩
    · have hlt' : ¬ (k : Int) < (x.e.rd.length : Int) := by omega
      have HN1 := Lib.hid (show NoRd S x.e.rd x.e.rd.length from fun j hj => HN.out j (by omega))
      go_wp2
      go_loopw [8] (R2Rel S x.e.wt w.heap.size x w) (fun i _ => x.e.wt.length - (intOf i).toNat)
      case atStart => exact ⟨0, Nat.zero_le _, rfl, HW.out, HBX.out, fun j hj => absurd hj (Nat.not_lt_zero _)⟩
      case round =>
        clear b3 hlt hlt' hk HN HBX HW
        obtain ⟨k2, hk, rfl, HW, HBX, HN⟩ := hrel
        have b4 := HBX.out.c4
        by_cases hlt : k2 < x.e.wt.length
        · obtain ⟨ad, s, hB, hs, hok, h5⟩ := (HX.out.below HW.out (Nat.le_refl _)).wt.at_.at_ hlt
          obtain ⟨c0, c1, c2, c3⟩ := h5
          rw [hB] at b4
          have HSS := Lib.hid hs
          have HOK := Lib.hid hok
          have hlt' : (k2 : Int) < (x.e.wt.length : Int) := by omega
          have h0 : (0 : Int) ≤ (k2 : Int) := by omega
          clear hs hok hB
          cases hh : has S s.x with
          | false =>
            have hden : lacks S s = true := by unfold lacks; rw [hh]; rfl
            obtain ⟨e1, e2⟩ := not_wt HSS.out hden
            have e3 := HF.out.symm.trans e1
            have e4 := HD.out.symm.trans e2
            subst e3; subst e4
            have HH := Lib.hid hh
            clear hh hden e1 e2
            go_wp2_with (go_at_call 87; refine (rhas_any _ _ _ _ _ HOK.out.1 false HH.out).mono ?_; rintro e w' ⟨rfl, hw'⟩; rw [hw'])
            go_ret2
            exact ⟨A, c, rfl, HC.out.1, HC.out.2, HA.out.below HW.out (Nat.le_refl _), HW.out⟩
          | true =>
            have HNO := Lib.hid (show lacks S s = false by unfold lacks; rw [hh]; rfl)
            have HH := Lib.hid hh
            clear hh
            go_wp2_with (go_at_call 87; refine (rhas_any _ _ _ _ _ HOK.out.1 true HH.out).mono ?_; rintro e w' ⟨rfl, hw'⟩; rw [hw'])
            go_roundw
            case rel => exact ⟨k2 + 1, by omega, by go_num, HW.out, HBX.out, no_succ HN.out HSS.out HNO.out⟩
            case measure => simp [intOf]; omega
        · have hlt' : ¬ (k2 : Int) < (x.e.wt.length : Int) := by omega
          have HN2 := Lib.hid (show NoWt S x.e.wt x.e.wt.length from fun j hj => HN.out j (by omega))
          have hyb := yes_both HN1.out HN2.out
          have e3 := HF.out.symm.trans hyb.1
          have e4 := HD.out.symm.trans hyb.2
          subst e3
          have b1 := HBX.out.c1
          cases hc : x.e.com with
          | false =>
            have e5 : S2 = S := by rw [e4]; unfold next; rw [hc]; rfl
            subst e5
            rw [hc] at b1
            have HCC := Lib.hid hc
            clear hyb e4 hc
            go_wp2
            go_ret2
            exact ⟨A, c, rfl, HC.out.1, HC.out.2, HA.out.below HW.out (Nat.le_refl _), HW.out⟩
          | true =>
            have e5 : S2 = put S x.e.wt := by rw [e4]; unfold next; rw [hc]; rfl
            rw [hc] at b1
            have HCC := Lib.hid hc
            have HE5 := Lib.hid e5
            clear hyb e4 hc e5
            go_wp2
            go_loopw [0, 9] (R3Rel S x.e.wt w.heap.size x w) (fun _ i _ => x.e.wt.length - (intOf i).toNat)
            case atStart => exact ⟨0, A, c, Nat.zero_le _, rfl, rfl, HC.out.1, HC.out.2, HA.out.below HW.out (Nat.le_refl _), HW.out, HBX.out⟩
            case round =>
              clear b1 hlt hlt' hk HN HBX HW
              obtain ⟨k3, B3, d3, hk, rfl, rfl, hd1, hd2, HP, HW, HBX⟩ := hrel
              have hpl : (put S (x.e.wt.take k3)).length = S.length := put_len _ _
              have HPL := Lib.hid hpl
              obtain ⟨P, hP⟩ : ∃ P, put S (x.e.wt.take k3) = P := ⟨_, rfl⟩
              rw [hP] at hd1 HP hpl ⊢
              have HPE := Lib.hid hP
              have HPLS := Lib.hid hpl
              have HD1 := Lib.hid hd1
              have HD2 := Lib.hid hd2
              clear hP hpl hd1 hd2
              have b4 := HBX.out.c4
              by_cases hlt : k3 < x.e.wt.length
              · obtain ⟨ad, s, hB, hs, hok, h5⟩ := (HX.out.below HW.out (Nat.le_refl _)).wt.at_.at_ hlt
                obtain ⟨c0, c1, c2, c3⟩ := h5
                rw [hB] at b4
                have hls := HN2.out k3 hlt s hs
                obtain ⟨q0, q1⟩ := (has_iff S s.x).1 (by simpa [lacks] using hls)
                obtain ⟨j, hj⟩ := Int.eq_ofNat_of_zero_le q0
                have hjP : j < P.length := by have := HPLS.out; omega
                have HSS := Lib.hid hs
                have HPN := Lib.hid (show put S (x.e.wt.take (k3 + 1)) = P.set j (s.k, s.n) by rw [put_snoc hs, HPE.out, hj, Int.toNat_natCast])
                have HSET := Lib.hid (show P.take j ++ [(s.k, s.n)] ++ P.drop (j + 1) = P.set j (s.k, s.n) by rw [List.set_eq_take_append_cons_drop, if_pos hjP, List.append_assoc]; rfl)
                have HTK := Lib.hid (show (P.take j).length = j by rw [List.length_take]; omega)
                have HDR := Lib.hid (show (P.drop (j + 1)).length = P.length - (j + 1) by rw [List.length_drop])
                rw [hj] at c0
                have hPl300 : P.length ≤ 300 := by have := HPLS.out; omega
                have hji : (j : Int) < (P.length : Int) := by omega
                have hj0 : (0 : Int) ≤ (j : Int) := by omega
                have hjd : j + 1 ≤ d3 := by have := HD1.out; omega
                have hd3 : (d3 : Int) ≤ 9223372036854775807 := by have := HD2.out; unfold maxLen at this; omega
                have hlt' : (k3 : Int) < (x.e.wt.length : Int) := by omega
                have h0 : (0 : Int) ≤ (k3 : Int) := by omega
                obtain ⟨ad2, hA2⟩ : ∃ ad2, B3 = some ad2 := by
                  obtain ⟨ad2, e, _⟩ := HP.out.cell (by omega)
                  exact ⟨ad2, e⟩
                subst hA2
                have HP0 := Lib.hid HP.out
                clear hs hok hB hls q0 q1 hj
                by_cases hd1 : d3 = j + 1
                · subst hd1
                  have HN0 := Lib.hid (show P.length = j + 1 by have := HD1.out; omega)
                  have HE := Lib.hid (show P.drop (j + 1) = [] from List.drop_eq_nil_of_le (by have := HN0.out; omega))
                  go_wp2_with (at_builtin; refine Rn.append_row encV vtR rfl _ _ rfl rfl (Rn.Own.empty wr 39 rfl (Nat.le_refl _)) (some ad2) _ (P.take j) HTK.out rfl ((at_below HP0.out (Rn.below_new wr (.cells #[] 39))).take j) ?c1 ?c2 ?_)
                  case c1 => have := HTK.out; simp; omega
                  case c2 => simp
                  intro v1 w1 ho1 hb1 hs1
                  have HO1 := Lib.hid ho1
                  have HB1 := Lib.hid ((Rn.below_new wr (.cells #[] 39)).trans hb1)
                  clear ho1 hb1 hs1
                  have HX1 := Lib.hid (HBX.out.below HB1.out HBX.out.lt)
                  obtain ⟨ad3, s3, hB3, hs3, hok3, h53⟩ := (HX.out.below (HW.out.trans (HB1.out.mono HW.out.size)) (Nat.le_refl _)).wt.at_.at_ hlt
                  obtain rfl : s = s3 := Option.some.inj (HSS.out.symm.trans hs3)
                  obtain ⟨e0, e1, e2, e3⟩ := h53
                  have b4 := HX1.out.c4
                  rw [hB3] at b4
                  clear hs3 hok3 hB3 c0 c1 c2 c3
                  go_wp2_with (at_builtin; refine Rn.append_row encV vtR rfl _ _ rfl rfl (HO1.out.alloc _) _ _ [(s.k, s.n)] rfl rfl (Rn.At.new _ (s.k, s.n) #[.int .i64 s.k, .int .i64 s.n] rfl _ rfl) ?d1 ?d2 ?_)
                  case d1 => have := HTK.out; simp; omega
                  case d2 => have := HB1.out.size; simp; omega
                  intro v2 w2 ho2 hb2 hs2
                  have HO2 := Lib.hid ho2
                  have HB2 := Lib.hid ((HB1.out.alloc HB1.out.size _).trans hb2)
                  clear ho2 hb2 hs2 e0 e1 e2 e3 b4
                  go_wp2_with (at_builtin; refine Rn.append_row encV vtR rfl _ _ rfl rfl HO2.out (some ad2) _ (P.drop (j + 1)) HDR.out rfl (by rw [HE.out]; exact Rn.At.nil _ _) ?f1 ?f2 ?_)
                  case f1 => have := HTK.out; have := HDR.out; simp; omega
                  case f2 => exact HB2.out.size
                  intro v3 w3 ho3 hb3 hs3
                  have HO3 := Lib.hid (show Rn.Own encV w3 wr.heap.size 39 v3 (P.set j (s.k, s.n)) by rw [← HSET.out]; simpa using ho3)
                  have HB3 := Lib.hid (HB2.out.trans hb3)
                  clear ho3 hb3 hs3
                  obtain ⟨B4, d4, rfl, q1, q2, q3, _⟩ := HO3.out.slice
                  have Q1 := Lib.hid q1
                  have Q2 := Lib.hid q2
                  have Q3 := Lib.hid q3
                  clear q1 q2 q3
                  go_wp2
                  go_roundw
                  case rel => exact ⟨k3 + 1, B4, d4, by omega, by go_num, by rw [HPN.out], by rw [HPN.out]; exact Q1.out, Q2.out, by rw [HPN.out]; exact Q3.out, HW.out.trans (HB3.out.mono HW.out.size), HBX.out.below HB3.out HBX.out.lt⟩
                  case measure => simp [intOf]; omega
                · have hcd : ¬ d3 = j + 1 := hd1
                  go_wp2_with (at_builtin; refine Rn.append_row encV vtR rfl _ _ rfl rfl (Rn.Own.empty wr 39 rfl (Nat.le_refl _)) (some ad2) _ (P.take j) HTK.out rfl ((at_below HP0.out (Rn.below_new wr (.cells #[] 39))).take j) ?c1 ?c2 ?_)
                  case c1 => have := HTK.out; simp; omega
                  case c2 => simp
                  intro v1 w1 ho1 hb1 hs1
                  have HO1 := Lib.hid ho1
                  have HB1 := Lib.hid ((Rn.below_new wr (.cells #[] 39)).trans hb1)
                  clear ho1 hb1 hs1
                  have HX1 := Lib.hid (HBX.out.below HB1.out HBX.out.lt)
                  obtain ⟨ad3, s3, hB3, hs3, hok3, h53⟩ := (HX.out.below (HW.out.trans (HB1.out.mono HW.out.size)) (Nat.le_refl _)).wt.at_.at_ hlt
                  obtain rfl : s = s3 := Option.some.inj (HSS.out.symm.trans hs3)
                  obtain ⟨e0, e1, e2, e3⟩ := h53
                  have b4 := HX1.out.c4
                  rw [hB3] at b4
                  clear hs3 hok3 hB3 c0 c1 c2 c3
                  go_wp2_with (at_builtin; refine Rn.append_row encV vtR rfl _ _ rfl rfl (HO1.out.alloc _) _ _ [(s.k, s.n)] rfl rfl (Rn.At.new _ (s.k, s.n) #[.int .i64 s.k, .int .i64 s.n] rfl _ rfl) ?d1 ?d2 ?_)
                  case d1 => have := HTK.out; simp; omega
                  case d2 => have := HB1.out.size; simp; omega
                  intro v2 w2 ho2 hb2 hs2
                  have HO2 := Lib.hid ho2
                  have HB2 := Lib.hid ((HB1.out.alloc HB1.out.size _).trans hb2)
                  clear ho2 hb2 hs2 e0 e1 e2 e3 b4
                  go_wp2_with (at_builtin; refine Rn.append_row encV vtR rfl _ _ rfl rfl HO2.out _ _ (P.drop (j + 1)) HDR.out rfl ((HP0.out.below HB2.out (Nat.le_refl _)).drop (j + 1)) ?f1 ?f2 ?_)
                  case f1 => have := HTK.out; have := HDR.out; simp; omega
                  case f2 => exact HB2.out.size
                  intro v3 w3 ho3 hb3 hs3
                  have HO3 := Lib.hid (show Rn.Own encV w3 wr.heap.size 39 v3 (P.set j (s.k, s.n)) by rw [← HSET.out]; simpa using ho3)
                  have HB3 := Lib.hid (HB2.out.trans hb3)
                  clear ho3 hb3 hs3
                  obtain ⟨B4, d4, rfl, q1, q2, q3, _⟩ := HO3.out.slice
                  have Q1 := Lib.hid q1
                  have Q2 := Lib.hid q2
                  have Q3 := Lib.hid q3
                  clear q1 q2 q3
                  go_wp2
                  go_roundw
                  case rel => exact ⟨k3 + 1, B4, d4, by omega, by go_num, by rw [HPN.out], by rw [HPN.out]; exact Q1.out, Q2.out, by rw [HPN.out]; exact Q3.out, HW.out.trans (HB3.out.mono HW.out.size), HBX.out.below HB3.out HBX.out.lt⟩
                  case measure => simp [intOf]; omega
              · have hlt' : ¬ (k3 : Int) < (x.e.wt.length : Int) := by omega
                have hall := HPE.out
                rw [List.take_of_length_le (by omega)] at hall
                have e5 := HE5.out.trans hall
                subst e5
                go_wp2
                go_ret2
                exact ⟨B3, d3, rfl, HD1.out, HD2.out, HP.out, HW.out⟩
def RallPost (S2 : List Vp) (n : Int) (w : World) (x : Ending) (w' : World) : Prop := ∃ B d, x = .returned (.tuple #[.slice B S2.length d, .int .i64 n]) ∧ Rn.At encV w' B S2 ∧ Below w.heap.size w w'
def RaRel (S : List Vp) (l : List Ent) (w : World) (v i : Value) (wr : World) : Prop := ∃ (k : Nat) (S' : List Vp) (B : Option Addr) (d : Nat), k ≤ l.length ∧ i = .int .i64 k ∧ v = .slice B S'.length d ∧ S'.length ≤ d ∧ d ≤ maxLen ∧ Aside (Rn.At encV wr B S') ∧ Aside (Stand S l k S') ∧ Aside (Below w.heap.size w wr)
set_option maxHeartbeats 4000000 in
set_option maxRecDepth 100000 in
theorem rall_any (A B : Option Addr) (c d : Nat) (S S2 : List Vp) (n : Int) (X : List Xc) (l : List Ent) (w : World) (hA : Rn.At encV w A S) (hX : ItAt w B X l) (hf : few l) (hl : l.length ≤ 10000) (hS : S.length ≤ 300) (hc : S.length ≤ c) (hcm : c ≤ maxLen) (h1 : allS S l = S2) (h2 : allN S l = n) :
    Calls Tryz.prog 34 #[.slice A S.length c, .slice B l.length d] w (RallPost S2 n w) := by
  have HA := Lib.hid hA
  have HX := Lib.hid hX
  have HF := Lib.hid hf
  have HAS := Lib.hid h1
  have HAN := Lib.hid h2
  clear hA hX hf h1 h2
  have hN : (l.length : Int) ≤ 9223372036854775807 := by omega
  go_enter Tryz.func34, Tryz.ntmps34
  go_wp2
  go_loopw [0, 6] (RaRel S l w) (fun _ i _ => l.length - (intOf i).toNat)
  case atStart => exact ⟨0, S, A, c, Nat.zero_le _, rfl, rfl, hc, hcm, HA.out, Stand.zero _ _, Below.refl _ _⟩
  case round =>
    clear hc hcm
    obtain ⟨k, S', B', d', hk, rfl, rfl, hd1, hd2, HO, HST, HB⟩ := hrel
    have HD1 := Lib.hid hd1
    have HD2 := Lib.hid hd2
    clear hd1 hd2
    by_cases hlt : k < l.length
    · obtain ⟨ad, x, rfl, hXk, hlk, hrd, h5⟩ := (HX.out.below HB.out (Nat.le_refl _)).at_ hlt
      obtain ⟨c0, c1, c2, c3, c4⟩ := h5
      have HLK := Lib.hid hlk
      have HRD := Lib.hid hrd
      have HFW := Lib.hid (HF.out x.e (List.mem_of_getElem? hlk))
      have HL := Lib.hid (show S'.length ≤ 300 by rw [HST.out.len]; exact hS)
      clear hXk hlk hrd
      have hlt' : (k : Int) < (l.length : Int) := by omega
      have h0 : (0 : Int) ≤ (k : Int) := by omega
      cases hf : fits S' x.e with
      | true =>
        have HFT := Lib.hid hf
        have HDO := Lib.hid (show doS S' x.e = next S' x.e by unfold doS; rw [hf]; rfl)
        clear hf
        go_wp2_with fail
        refine (rdoes_any B' d' S' x _ HO.out HRD.out HFW.out.1 HFW.out.2 HL.out HD1.out HD2.out).mono ?_
        rw [HFT.out, HDO.out]
        rintro e w2 ⟨B2, d2, rfl, q1, q2, ho, hb⟩
        have HO2 := Lib.hid ho
        have HB2 := Lib.hid (HB.out.trans (hb.mono HB.out.size))
        have Q1 := Lib.hid q1
        have Q2 := Lib.hid q2
        have HS2 := Lib.hid (HST.out.step HLK.out HFT.out)
        clear ho hb c0 c1 c2 c3 c4 q1 q2
        generalize next S' x.e = S3 at HO2 Q1 HS2 ⊢
        go_wp2
        go_roundw
        case rel => exact ⟨k + 1, S3, B2, d2, by omega, by go_num, rfl, Q1.out, Q2.out, HO2.out, HS2.out, HB2.out⟩
        case measure => simp [intOf]; omega
      | false =>
        have HFT := Lib.hid hf
        have HDO := Lib.hid (show doS S' x.e = S' by unfold doS; rw [hf]; rfl)
        clear hf
        go_wp2_with fail
        refine (rdoes_any B' d' S' x _ HO.out HRD.out HFW.out.1 HFW.out.2 HL.out HD1.out HD2.out).mono ?_
        rw [HFT.out, HDO.out]
        rintro e w2 ⟨B2, d2, rfl, q1, q2, ho, hb⟩
        have HO2 := Lib.hid (HO.out.below hb (Nat.le_refl _))
        have HB2 := Lib.hid (HB.out.trans (hb.mono HB.out.size))
        clear ho hb c0 c1 c2 c3 c4 q1 q2
        obtain ⟨e1, e2⟩ := HST.out.stop HLK.out HFT.out
        have e3 := HAS.out.symm.trans e1
        have e4 := HAN.out.symm.trans e2
        subst e3; subst e4
        go_wp2
        go_ret2
        exact ⟨B', d', rfl, HO2.out, HB2.out⟩
    · have hlt' : ¬ (k : Int) < (l.length : Int) := by omega
      obtain ⟨e1, e2⟩ := HST.out.end_ (by omega)
      have e3 := HAS.out.symm.trans e1
      have e4 := HAN.out.symm.trans e2
      subst e3; subst e4
      go_wp2
      go_ret2
      exact ⟨B', d', rfl, HO.out, HB.out⟩
end Go.Proofs.YtaonepbongbhoaaGreat.Rp
