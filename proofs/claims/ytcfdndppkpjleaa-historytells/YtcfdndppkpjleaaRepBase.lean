/-
  Rows of values and rows of entries in memory.
-/
import Derived.Test.YtcfdndppkpjleaaRowN
import Derived.Test.YtcfdndppkpjleaaTxnBase
import Derived.Test.YtcfdndppkpjleaaRepMath
namespace Go.Proofs.Ytcfdndppkpjleaa.Rp
open Go.RowKit Tx
abbrev encV : Rn.Enc Vp where
  n := 2
  pos := by decide
  cells v := [.int .i64 v.1, .int .i64 v.2]
  len _ := rfl
  one v u hu := by simp at hu; rcases hu with rfl | rfl <;> rfl
/-- an entry as it lies: its reads' and its writes' slices. -/
structure Xc where
  e : Ent
  A : Option Addr
  c : Nat
  B : Option Addr
  d : Nat
abbrev encX : Rn.Enc Xc where
  n := 5
  pos := by decide
  cells x := [.int .i64 x.e.id, .bool x.e.com, .bool x.e.ovr, .slice x.A x.e.rd.length x.c, .slice x.B x.e.wt.length x.d]
  len _ := rfl
  one v u hu := by simp at hu; rcases hu with rfl | rfl | rfl | rfl | rfl <;> rfl
def valA (v : Vp) : Array Value := #[.int .i64 v.1, .int .i64 v.2]
def entA (x : Xc) : Array Value := #[.int .i64 x.e.id, .bool x.e.com, .bool x.e.ovr, .slice x.A x.e.rd.length x.c, .slice x.B x.e.wt.length x.d]
theorem val_info : (Try.prog.info? 62).map (fun i => (i.zero, i.size, i.bytes)) = some (some (.agg #[.int .i64 0, .int .i64 0]), 2, 16) := by kernel_rfl
theorem rval_info : (Try.prog.info? 68).map (fun i => (i.zero, i.size, i.bytes)) = some (some (.agg #[.int .i64 0, .int .i64 0]), 2, 16) := by kernel_rfl
theorem ent_info : (Try.prog.info? 67).map (fun i => (i.zero, i.size, i.bytes)) = some (some (.agg #[.int .i64 0, .bool false, .bool false, .slice none 0 0, .slice none 0 0]), 5, 64) := by kernel_rfl
theorem rent_info : (Try.prog.info? 77).map (fun i => (i.zero, i.size, i.bytes)) = some (some (.agg #[.int .i64 0, .bool false, .bool false, .slice none 0 0, .slice none 0 0]), 5, 64) := by kernel_rfl
theorem vtX : Rn.VT encX 35 67 := by
  obtain ⟨i0, hi, hz0, hz1, hz2⟩ := info_parts ent_info
  exact ⟨Try.underlying35, i0, _, hi, hz0, hz1, by rw [hz2]; decide, rfl⟩
theorem vtY : Rn.VT encX 33 77 := by
  obtain ⟨i0, hi, hz0, hz1, hz2⟩ := info_parts rent_info
  exact ⟨Try.underlying33, i0, _, hi, hz0, hz1, by rw [hz2]; decide, rfl⟩
/-- a value, in the walk's own words. -/
theorem at2 {w : World} {A : Option Addr} {L : List Vp} (h : Rn.At encV w A L) {j : Nat} {v : Vp} (hv : L[j]? = some v) : ∃ ad, A = some ad ∧ w.cell? (ad.add (j * 2)) = some (.int .i64 v.1) ∧ w.cell? ⟨(ad.add (j * 2)).block, (ad.add (j * 2)).off + 1, none⟩ = some (.int .i64 v.2) := by
  obtain ⟨ad, e, hc⟩ := h.get hv
  refine ⟨ad, e, hc 0 _ rfl, ?_⟩
  rw [← Rn.add_lit ad (j * 2) 0]; exact hc 1 _ rfl
/-- an entry, in the walk's own words. -/
structure At5 (w : World) (p : Addr) (x : Xc) : Prop where
  c0 : w.cell? p = some (.int .i64 x.e.id)
  c1 : w.cell? ⟨p.block, p.off + 1, none⟩ = some (.bool x.e.com)
  c2 : w.cell? ⟨p.block, p.off + 2, none⟩ = some (.bool x.e.ovr)
  c3 : w.cell? ⟨p.block, p.off + 3, none⟩ = some (.slice x.A x.e.rd.length x.c)
  c4 : w.cell? ⟨p.block, p.off + 4, none⟩ = some (.slice x.B x.e.wt.length x.d)
theorem at5 {w : World} {A : Option Addr} {X : List Xc} (h : Rn.At encX w A X) {j : Nat} {x : Xc} (hx : X[j]? = some x) : ∃ ad, A = some ad ∧ At5 w (ad.add (j * 5)) x := by
  obtain ⟨ad, e, hc⟩ := h.get hx
  refine ⟨ad, e, hc 0 _ rfl, ?_, ?_, ?_, ?_⟩
  · rw [← Rn.add_lit ad (j * 5) 0]; exact hc 1 _ rfl
  · rw [← Rn.add_lit ad (j * 5) 1]; exact hc 2 _ rfl
  · rw [← Rn.add_lit ad (j * 5) 2]; exact hc 3 _ rfl
  · rw [← Rn.add_lit ad (j * 5) 3]; exact hc 4 _ rfl
/-- the slices of an entry read as its steps. -/
structure RdX (w : World) (x : Xc) : Prop where
  rd : SlAt w x.A x.c x.e.rd
  wt : SlAt w x.B x.d x.e.wt
theorem RdX.below {w w' : World} {x : Xc} {B : Nat} (h : RdX w x) (hb : Below B w w') (hB : w.heap.size ≤ B) : RdX w' x :=
  ⟨⟨h.rd.at_.below hb hB, h.rd.le, h.rd.max⟩, ⟨h.wt.at_.below hb hB, h.wt.le, h.wt.max⟩⟩
/-- a slice reads as these entries, each with its steps. -/
structure ItAt (w : World) (A : Option Addr) (X : List Xc) (L : List Ent) : Prop where
  row : Rn.At encX w A X
  es : X.map (·.e) = L
  rd : ∀ x ∈ X, RdX w x
theorem ItAt.below {w w' : World} {A : Option Addr} {X : List Xc} {L : List Ent} {B : Nat} (h : ItAt w A X L) (hb : Below B w w') (hB : w.heap.size ≤ B) : ItAt w' A X L :=
  ⟨h.row.below hb hB, h.es, fun x hx => (h.rd x hx).below hb hB⟩
theorem ItAt.len {w : World} {A : Option Addr} {X : List Xc} {L : List Ent} (h : ItAt w A X L) : X.length = L.length := by rw [← h.es, List.length_map]
/-- the steps of entries are few. -/
def few (l : List Ent) : Prop := ∀ e ∈ l, e.rd.length ≤ 300 ∧ e.wt.length ≤ 300
theorem ItAt.at_ {w : World} {A : Option Addr} {X : List Xc} {L : List Ent} (h : ItAt w A X L) {j : Nat} (hj : j < L.length) : ∃ ad x, A = some ad ∧ X[j]? = some x ∧ L[j]? = some x.e ∧ RdX w x ∧ At5 w (ad.add (j * 5)) x := by
  have hl := h.len
  have hx := List.getElem?_eq_getElem (l := X) (i := j) (by omega)
  obtain ⟨ad, e, h5⟩ := at5 h.row hx
  have hm : (X.map (·.e))[j]? = some X[j].e := by rw [List.getElem?_map, hx]; rfl
  rw [h.es] at hm
  exact ⟨ad, _, e, hx, hm, h.rd _ (List.getElem_mem _), h5⟩
/-- a row of values: what a call hands back. -/
def VlPost (S : List Vp) (e : TypeId) (w : World) (x : Ending) (w' : World) : Prop := ∃ v, x = .returned v ∧ Rn.Own encV w' w.heap.size e v S ∧ Below w.heap.size w w'
end Go.Proofs.Ytcfdndppkpjleaa.Rp
