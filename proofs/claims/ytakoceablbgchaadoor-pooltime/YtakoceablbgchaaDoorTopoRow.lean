/-
  Contracts of topo.Row, between, standing; rows of nodes in memory.
-/
import Derived.Test.YtakoceablbgchaaDoorTopoWalk1
import Derived.Deep.AppendLies
namespace Go.Proofs.YtakoceablbgchaaDoor
open Go.RowKit
/-- v is a row of these numbers, made behind base. -/
def Own (w : World) (base : Nat) (v : Value) (l : List Nat) : Prop := w.ownsRow base 3 1 v l.length (vals l)
theorem Own.shape {w : World} {base : Nat} {v : Value} {l : List Nat} (h : Own w base v l) : ∃ A c, v = .slice A l.length c ∧ l.length ≤ c ∧ c ≤ 9223372036854775807 := by
  rcases h.2 with ⟨rfl, h0⟩ | ⟨g, cap, cur, rfl, _, _, h1, h2, _⟩
  · exact ⟨none, 0, by rw [h0], by omega, by omega⟩
  · unfold maxLen at h2
    exact ⟨_, _, rfl, h1, by omega⟩
theorem Own.at_ {w : World} {base : Nat} {A : Option Addr} {n c : Nat} {l : List Nat} (h : Own w base (.slice A n c) l) {k : Nat} (hk : k < l.length) :
    ∃ g, A = some ⟨g, 0, none⟩ ∧ w.cell? ⟨g, k, none⟩ = some (.int .i64 (l[k] : Nat)) := by
  obtain ⟨g, cap, hv, _, hlt⟩ := h.form (by omega)
  have hA : A = some ⟨g, 0, none⟩ := by injection hv
  subst hA
  refine ⟨g, rfl, ?_⟩
  have := h.cells (g := g) rfl k (.int .i64 (l[k] : Nat)) (by simp [vals, List.getElem?_eq_getElem hk])
  rwa [addr_at] at this
theorem Own.block {w : World} {base g : Nat} {n c : Nat} {l : List Nat} (h : Own w base (.slice (some ⟨g, 0, none⟩) n c) l) : base ≤ g ∧ g < w.heap.size := World.ownsRow.lt h g rfl
theorem Own.below {w w' : World} {base B : Nat} {v : Value} {l : List Nat} (h : Own w base v l) (hb : Below B w w') (hB : w.heap.size ≤ B) : Own w' base v l := by
  refine ⟨h.1, ?_⟩
  rcases h.2 with hn | ⟨g, cap, cur, hv, hbase, hg, rest⟩
  · exact .inl hn
  · have : g < w.heap.size := (Array.getElem?_eq_some_iff.1 hg).1
    exact .inr ⟨g, cap, cur, hv, hbase, (hb.block g (by omega)).trans hg, rest⟩
theorem Own.setCell {w : World} {base : Nat} {v : Value} {l : List Nat} (h : Own w base v l) (a : Addr) (u : Value) (ha : a.block < base) : Own (w.setCell a u) base v l := by
  refine ⟨h.1, ?_⟩
  rcases h.2 with hn | ⟨g, cap, cur, hv, hbase, hg, rest⟩
  · exact .inl hn
  · exact .inr ⟨g, cap, cur, hv, hbase, (Below.heap_setCell w a u g (by omega)).trans hg, rest⟩
theorem Own.mono {w : World} {base base' : Nat} {v : Value} {l : List Nat} (h : Own w base v l) (hb : base' ≤ base) : Own w base' v l := by
  refine ⟨h.1, ?_⟩
  rcases h.2 with hn | ⟨g, cap, cur, hv, hbase, hg, rest⟩
  · exact .inl hn
  · exact .inr ⟨g, cap, cur, hv, by omega, hg, rest⟩
theorem own_nil (w : World) (base : Nat) : Own w base (.slice none 0 0) [] := World.ownsRow_nil _ _ _ _
def lint (l : List Nat) : List Int := l.map fun (k : Nat) => (k : Int)
theorem Own.ints {w : World} {base : Nat} {A : Option Addr} {n c : Nat} {l : List Nat} (h : Own w base (.slice A n c) l) (hl : ∀ k ∈ l, k < 64) : IntsAt w A l.length (lint l) := by
  refine ⟨by simp [lint], fun hn => ?_, ?_⟩
  · obtain ⟨g, rfl, _⟩ := h.at_ hn
    refine ⟨_, rfl, fun j z hz => ?_⟩
    have hj : j < l.length := by simpa [lint] using (List.getElem?_eq_some_iff.1 hz).1
    have e : ((l[j] : Nat) : Int) = z := by simpa [lint, hj] using hz
    obtain ⟨g', hA, hc⟩ := h.at_ hj
    injection hA with hA
    injection hA with hA
    subst hA
    rw [addr_at, hc, e]
  · intro z hz
    simp only [lint, List.mem_map] at hz
    obtain ⟨a, ha, rfl⟩ := hz
    have := hl a ha
    exact ⟨by omega, by omega⟩
theorem made32 : madeCells (Value.int .i64 0).cells 32 = ordA zeroO := by
  apply Array.ext_getElem?
  intro i
  by_cases h : i < 32
  · rw [ordA_get _ i h]; simp [madeCells, h, zeroO, Value.cells, Nat.mod_one]
  · rw [Array.getElem?_eq_none (by rw [size_madeCells]; omega), Array.getElem?_eq_none (by rw [ordA_size]; omega)]
theorem make32 (W : World) : (Instr.makeSlice 48 (.int .i64 32) (.int .i64 32)).run Tryd.prog W = .ok (.slice (some ⟨W.heap.size, 0, none⟩) 32 32) (W.alloc (.cells (ordA zeroO) 3)) := by
  obtain ⟨i0, hi, hz0, hz1, hz2⟩ := info_parts int_info
  have := run_make (P := Tryd.prog) W 48 3 i0 (.int .i64 0) Tryd.underlying48 hi hz0 .i64 .i64 32 32 (by omega) (by omega) (by rw [hz2]; omega) (by omega)
  rw [this, hz1, show (Int.toNat 32) * 1 = 32 from rfl, made32]
  rfl
/-- the nodes below k, each at its place. -/
def rowTo (o : Od.O) (k : Nat) : Od.O := fun p => if Od.at_ o p < k then (Od.at_ o p : Int) else 0
theorem rowTo_step {o : Od.O} (h : Od.Right o) {k : Nat} (hk : k < 32) (p : Nat) (hp : p < 32) : Od.upd (rowTo o k) (Od.pl o k) (k : Nat) p = rowTo o (k + 1) p := by
  have h1 := h.pl hk
  unfold Od.upd rowTo
  by_cases e : p = Od.pl o k
  · subst e
    rw [if_pos rfl, h1.2.2, if_pos (by omega)]
  · have : Od.at_ o p ≠ k := fun e2 => e (by rw [← e2, h.pl_at hp])
    rw [if_neg e]
    by_cases h2 : Od.at_ o p < k
    · rw [if_pos h2, if_pos (by omega)]
    · rw [if_neg h2, if_neg (by omega)]
theorem rowTo_zero (o : Od.O) (p : Nat) : zeroO p = rowTo o 0 p := by simp [zeroO, rowTo]
theorem row_own {w : World} {g base : Nat} {o : Od.O} (hr : Od.Right o) (h : OrdAt w g (rowTo o 32) 3) (hb : base ≤ g) : Own w base (.slice (some ⟨g, 0, none⟩) 32 32) (Od.row o) := by
  refine ⟨by simp [vals, Od.row_len], .inr ⟨g, 32, ordA (rowTo o 32), by rw [Od.row_len], hb, h, by rw [Od.row_len]; decide, by unfold maxLen; omega, by rw [ordA_size], ?_⟩⟩
  apply List.ext_getElem?
  intro i
  by_cases hi : i < 32
  · have := ordA_get (rowTo o 32) i hi
    rw [List.getElem?_take, Od.row_len, if_pos (by omega), Array.getElem?_toList, this]
    unfold vals
    rw [List.getElem?_map, Od.row_get hi]
    simp [rowTo, (Od.at_spec hr hi).1]
  · rw [List.getElem?_eq_none (by simp [Od.row_len]; omega), List.getElem?_eq_none (by simp [vals, Od.row_len]; omega)]
def RowRel (o : Od.O) (g : Nat) (w : World) (i : Value) (wr : World) : Prop :=
  ∃ k : Nat, k ≤ 32 ∧ i = .int .i64 k ∧ OrdAt wr g (rowTo o k) 3 ∧ Below w.heap.size w wr
theorem right_val (o : Od.O) (b : Bool) (w : World) (ho : Od.Ok o) (h : Od.rightB o = b) :
    Calls Tryd.prog 77 #[.agg (ordA o)] w fun e w' => e = .returned (.bool b) ∧ Below w.heap.size w w' := by
  have := right_any o w ho
  rw [h] at this; exact this
def RowPost (o : Od.O) (w : World) (e : Ending) (w' : World) : Prop := ∃ v, e = .returned v ∧ Own w' w.heap.size v (Od.row o) ∧ Below w.heap.size w w'
set_option maxHeartbeats 1000000 in
set_option maxRecDepth 100000 in
theorem row_yes (o : Od.O) (w : World) (hr : Od.Right o) : Calls Tryd.prog 81 #[.agg (ordA o)] w (RowPost o w) := by
  have HR := Lib.hid hr
  have HB := Lib.hid (Od.rightB_yes hr)
  have HO := Lib.hid hr.ok
  have H0 := Lib.hid (ordAt_new w o 29)
  have hmk := make32
  clear hr
  go_enter Tryd.func81, Tryd.ntmps81
  go_wp2_with (refine wpList_load_row rfl 29 (.tmp 1) rfl w.heap.size rfl 29 (ordA o) (0, 0) _ H0.out Tryd.underlying29 rfl (ordInfo o) ?_)
  refine (right_val o true _ HO.out HB.out).mono ?_
  rintro e w1 ⟨rfl, hb1⟩
  have H1 := Lib.hid ((H0.out.below hb1).alloc (.cells (ordA zeroO) 3))
  have HB1 := Lib.hid (((below_new w (.cells (ordA o) 29)).trans (hb1.mono (below_new w (.cells (ordA o) 29)).size)))
  clear hb1
  go_wp2_with (refine wpList_load_row rfl 29 (.tmp 1) rfl w.heap.size rfl 29 (ordA o) (0, 0) _ H1.out Tryd.underlying29 rfl (ordInfo o) ?_)
  go_loopw [11] (RowRel o w1.heap.size w) (fun i _ => 32 - (intOf i).toNat)
  case atStart => exact ⟨0, by omega, rfl, (ordAt_new w1 zeroO 3).ext fun i _ => rowTo_zero o i, HB1.out.alloc HB1.out.size _⟩
  case round =>
    obtain ⟨k, hk, rfl, h1, hb⟩ := hrel
    have HL := Lib.hid h1
    by_cases hlt : k < 32
    · have hp := HR.out.pl hlt
      have hg : ∀ W, (Instr.index 29 (.agg (ordA o)) (.int .i64 (k : Nat))).run Tryd.prog W = .ok (.int .i64 (Od.pl o k : Nat)) W := fun W => by rw [index_ord o k hlt, ← hp.1]
      have hp32 := hp.2.1
      have hc := h1.cell _ hp.2.1
      have hf := h1.frozen (Od.pl o k)
      clear h1 hp
      go_wp2
      refine ⟨⟨k + 1, by omega, by go_num, ?_, hb.setCell (by have := HB1.out.size; simp; omega) _⟩, by simp [intOf]; omega⟩
      exact (ordAt_cell HL.out).ext fun i hi => rowTo_step HR.out hlt i hi
    · obtain rfl : k = 32 := by omega
      clear h1
      go_wp2
      go_ret
      exact ⟨_, rfl, row_own HR.out HL.out HB1.out.size, hb⟩
set_option maxHeartbeats 1000000 in
set_option maxRecDepth 100000 in
theorem row_no (o : Od.O) (w : World) (ho : Od.Ok o) (hr : ¬ Od.Right o) :
    Calls Tryd.prog 81 #[.agg (ordA o)] w fun e w' => e = .returned (.slice none 0 0) ∧ Below w.heap.size w w' := by
  have HB := Lib.hid (Od.rightB_no hr)
  have H0 := Lib.hid (ordAt_new w o 29)
  clear hr
  go_enter Tryd.func81, Tryd.ntmps81
  go_wp2_with (refine wpList_load_row rfl 29 (.tmp 1) rfl w.heap.size rfl 29 (ordA o) (0, 0) _ H0.out Tryd.underlying29 rfl (ordInfo o) ?_)
  refine (right_val o false _ ho HB.out).mono ?_
  rintro e w1 ⟨rfl, hb1⟩
  go_wp2
  go_ret
  exact ⟨rfl, (below_new _ _).trans (hb1.mono (below_new w (.cells (ordA o) 29)).size)⟩
end Go.Proofs.YtakoceablbgchaaDoor
