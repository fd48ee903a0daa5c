/-
  Contracts of topo.New, Right, Row, between.
  Contracts of topo.Row, between, standing; rows of nodes in memory.
  Contracts of topo.between, standing.
  The contract of topo.Sorted.
  Contracts of what topo.Insert hands to spread, and of spread.
  The contract of topo.spread, for both literals that Insert hands to it.
  The contract of topo.relay.
  The frame of both Inserts: where things lie; steps of the regions that draw their order; results.
-/
import Derived.Test.YtfdfiiocccafkaaGreatDoorJMat
import Derived.Deep.AppendLies
namespace Go.Proofs.YtfdfiiocccafkaaGreatDoor
open Go.RowKit
/-- the first k places. -/
def newTo (k : Nat) : Od.O := fun i => if i < k then (i : Int) else 0
theorem newTo_step (k i : Nat) : Od.upd (newTo k) k (k : Nat) i = newTo (k + 1) i := by
  unfold Od.upd newTo
  by_cases h : i = k
  · subst h; simp
  · by_cases h2 : i < k
    · simp [h, h2, show i < k + 1 from by omega]
    · simp [h, h2, show ¬ i < k + 1 from by omega]
theorem newTo_all (i : Nat) (h : i < 32) : newTo 32 i = Od.newO i := by simp [newTo, Od.newO, h]
def NewRel (t : Nat) (w : World) (i : Value) (wr : World) : Prop :=
  ∃ k : Nat, k ≤ 32 ∧ i = .int .i64 k ∧ OrdAt wr w.heap.size zeroO t ∧ OrdAt wr (w.heap.size + 1) (newTo k) t ∧ Below w.heap.size w wr
theorem new_first (w : World) (t : Nat) : NewRel t w (.int .i64 0) ((w.alloc (.cells (Array.replicate 32 (Value.int .i64 0)) t)).alloc (.cells (Array.replicate 32 (Value.int .i64 0)) t)) := by
  refine ⟨0, by omega, rfl, (zeroO_lit w t).alloc _, ?_, ((Below.refl _ _).alloc (Nat.le_refl _) _).alloc (by simp) _⟩
  have := zeroO_lit (w.alloc (.cells (Array.replicate 32 (Value.int .i64 0)) t)) t
  have h2 : OrdAt ((w.alloc (.cells (Array.replicate 32 (Value.int .i64 0)) t)).alloc (.cells (Array.replicate 32 (Value.int .i64 0)) t)) (w.heap.size + 1) zeroO t := by simpa using this
  exact h2.ext fun i _ => by simp [newTo, zeroO]
set_option maxHeartbeats 1000000 in
set_option maxRecDepth 100000 in
theorem new_any (w : World) :
    Calls Tryz.prog 62 #[] w fun e w' => e = .returned (.agg (ordA Od.newO)) ∧ Below w.heap.size w w' := by
  go_enter Tryz.func62, Tryz.ntmps62
  go_wp2
  go_loopw [3] (NewRel 85 w) (fun i _ => 32 - (intOf i).toNat)
  case atStart => exact new_first w 85
  case round =>
    obtain ⟨k, hk, rfl, h0, h1, hb⟩ := hrel
    have H0 := Lib.hid h0
    have H1 := Lib.hid h1
    by_cases hlt : k < 32
    · have hc := h1.cell k hlt
      have hf := h1.frozen k
      clear h0 h1
      go_wp2
      refine ⟨⟨k + 1, by omega, by go_num, ?_, ?_, hb.setCell (by simp) _⟩, by simp [intOf]; omega⟩
      · exact H0.out.setCell _ _ (by simp)
      · exact (ordAt_cell H1.out).ext fun i _ => newTo_step k i
    · obtain rfl : k = 32 := by omega
      clear h0 h1
      go_wp2_with (first
        | (refine wpList_load_row rfl 85 (.tmp 1) rfl (w.heap.size + 1) rfl 85 _ (0, 0) _ H1.out Tryz.underlying85 rfl (ordInfo _) ?_)
        | (refine wpList_store_row rfl 85 (.tmp 0) (.tmp 10) rfl w.heap.size _ rfl rfl 85 _ H0.out (ordInfo _) (by rw [ordA_size, ordA_size]) (ordA_one _) ?_))
      rw [ordA_ext newTo_all]
      refine bodyPost_ret (results_cell_row rfl _ _ w.heap.size 85 (ordA Od.newO) (0, 0) _ rfl (setRow_heap _ _ _ _ _ _ H0.out) Tryz.underlying85 rfl (ordInfo _)) rfl ⟨rfl, ?_⟩
      exact setRow_below hb (by omega)
/- Right -/
theorem addr_at (g j : Nat) : (⟨g, 0, none⟩ : Addr).add j = ⟨g, j, none⟩ := by unfold Addr.add; split <;> simp_all
def ordL (o : Od.O) : List Int := (List.range 32).map o
theorem ordL_ints {w : World} {g : Nat} {o : Od.O} {t : Nat} (h : OrdAt w g o t) (ho : Od.Ok o) : IntsAt w (some ⟨g, 0, none⟩) 32 (ordL o) := by
  refine ⟨by simp [ordL], fun _ => ⟨_, rfl, fun j z hz => ?_⟩, fun z hz => ?_⟩
  · have hj : j < 32 := by
      have := (List.getElem?_eq_some_iff.1 hz).1
      simpa [ordL] using this
    have e : o j = z := by simpa [ordL, hj] using hz
    have := h.cell j hj
    rw [e] at this
    rw [addr_at]; exact this
  · simp only [ordL, List.mem_map, List.mem_range] at hz
    obtain ⟨i, hi, rfl⟩ := hz
    exact ho i hi
theorem right_full (o : Od.O) : (((Sm.ofL 0 (ordL o) : Nat) : Int) == 4294967295) = Od.rightB o := by
  rw [Bool.eq_iff_iff, Od.rightB_iff]
  have hl := Sm.ofL_lt (x := 0) (ordL o) (by decide)
  have htest : ∀ j, j < 64 → ((Sm.ofL 0 (ordL o)).testBit j = true ↔ ∃ i, i < 32 ∧ o i = (j : Int)) := fun j hj => by
    rw [Sm.ofL_test _ _ _ hj]
    simp [ordL]
  constructor
  · intro h p hp
    have e : Sm.ofL 0 (ordL o) = 4294967295 := by
      have := eq_of_beq h
      omega
    refine (htest p (by omega)).1 ?_
    rw [e, show (4294967295 : Nat) = 2 ^ 32 - 1 from rfl, Nat.testBit_two_pow_sub_one]
    simpa using hp
  · intro h
    have e : Sm.ofL 0 (ordL o) = 4294967295 := by
      apply Sm.ext; intro j
      rw [show (4294967295 : Nat) = 2 ^ 32 - 1 from rfl, Nat.testBit_two_pow_sub_one]
      by_cases hj : j < 64
      · rw [Bool.eq_iff_iff, htest j hj]
        simp
        constructor
        · rintro ⟨i, hi, e⟩
          exact (Od.Right.at_eq h hi e).1
        · intro hj; exact h j hj
      · rw [Sm.test_big hl (by omega)]
        simp; omega
    rw [e]; rfl
set_option maxHeartbeats 1000000 in
theorem right_any (o : Od.O) (w : World) (ho : Od.Ok o) :
    Calls Tryz.prog 173 #[.agg (ordA o)] w fun e w' => e = .returned (.bool (Od.rightB o)) ∧ Below w.heap.size w w' := by
  have HI := Lib.hid (ordL_ints (ordAt_new w o 85) ho)
  have HF := Lib.hid (right_full o)
  go_enter Tryz.func173, Tryz.ntmps173
  go_wp2_with (go_at_call 174; refine (of_any _ 32 32 _ _ (by decide) HI.out).mono ?_; rintro e w' ⟨rfl, rfl⟩)
  go_ret
  exact ⟨ret_bool HF.out, below_new _ _⟩
end Go.Proofs.YtfdfiiocccafkaaGreatDoor
namespace Go.Proofs.YtfdfiiocccafkaaGreatDoor
open Go.RowKit
/-- v is a row of these numbers, made behind base. -/
def Own (w : World) (base : Nat) (v : Value) (l : List Nat) : Prop := w.ownsRow base 3 1 v l.length (vals l)
theorem Own.shape {w : World} {base : Nat} {v : Value} {l : List Nat} (h : Own w base v l) : ∃ A c, v = .slice A l.length c ∧ l.length ≤ c ∧ c ≤ 9223372036854775807 := by
  rcases h.2 with ⟨rfl, h0⟩ | ⟨g, cap, cur, rfl, _, _, h1, h2, _⟩
  · exact ⟨none, 0, by rw [h0], by omega, by omega⟩
  · unfold maxLen at h2
    exact ⟨_, _, rfl, h1, by omega⟩
theorem Own.at_ {w : World} {base : Nat} {A : Option Addr} {n c : Nat} {l : List Nat} (h : Own w base (.slice A n c) l) {k : Nat} (hk : k < l.length) :
    ∃ g, A = some ⟨g, 0, none⟩ ∧ w.cell? ⟨g, k, none⟩ = some (.int .i64 (l[k] : Nat)) := by
  obtain ⟨g, cap, hv, _, hlt⟩ := h.form (by omega)
  have hA : A = some ⟨g, 0, none⟩ := by injection hv
  subst hA
  refine ⟨g, rfl, ?_⟩
  have := h.cells (g := g) rfl k (.int .i64 (l[k] : Nat)) (by simp [vals, List.getElem?_eq_getElem hk])
  rwa [addr_at] at this
theorem Own.block {w : World} {base g : Nat} {n c : Nat} {l : List Nat} (h : Own w base (.slice (some ⟨g, 0, none⟩) n c) l) : base ≤ g ∧ g < w.heap.size := World.ownsRow.lt h g rfl
theorem Own.below {w w' : World} {base B : Nat} {v : Value} {l : List Nat} (h : Own w base v l) (hb : Below B w w') (hB : w.heap.size ≤ B) : Own w' base v l := by
  refine ⟨h.1, ?_⟩
  rcases h.2 with hn | ⟨g, cap, cur, hv, hbase, hg, rest⟩
  · exact .inl hn
  · have : g < w.heap.size := (Array.getElem?_eq_some_iff.1 hg).1
    exact .inr ⟨g, cap, cur, hv, hbase, (hb.block g (by omega)).trans hg, rest⟩
theorem Own.setCell {w : World} {base : Nat} {v : Value} {l : List Nat} (h : Own w base v l) (a : Addr) (u : Value) (ha : a.block < base) : Own (w.setCell a u) base v l := by
  refine ⟨h.1, ?_⟩
  rcases h.2 with hn | ⟨g, cap, cur, hv, hbase, hg, rest⟩
  · exact .inl hn
  · exact .inr ⟨g, cap, cur, hv, hbase, (Below.heap_setCell w a u g (by omega)).trans hg, rest⟩
theorem Own.mono {w : World} {base base' : Nat} {v : Value} {l : List Nat} (h : Own w base v l) (hb : base' ≤ base) : Own w base' v l := by
  refine ⟨h.1, ?_⟩
  rcases h.2 with hn | ⟨g, cap, cur, hv, hbase, hg, rest⟩
  · exact .inl hn
  · exact .inr ⟨g, cap, cur, hv, by omega, hg, rest⟩
theorem own_nil (w : World) (base : Nat) : Own w base (.slice none 0 0) [] := World.ownsRow_nil _ _ _ _
def lint (l : List Nat) : List Int := l.map fun (k : Nat) => (k : Int)
theorem Own.ints {w : World} {base : Nat} {A : Option Addr} {n c : Nat} {l : List Nat} (h : Own w base (.slice A n c) l) (hl : ∀ k ∈ l, k < 64) : IntsAt w A l.length (lint l) := by
  refine ⟨by simp [lint], fun hn => ?_, ?_⟩
  · obtain ⟨g, rfl, _⟩ := h.at_ hn
    refine ⟨_, rfl, fun j z hz => ?_⟩
    have hj : j < l.length := by simpa [lint] using (List.getElem?_eq_some_iff.1 hz).1
    have e : ((l[j] : Nat) : Int) = z := by simpa [lint, hj] using hz
    obtain ⟨g', hA, hc⟩ := h.at_ hj
    injection hA with hA
    injection hA with hA
    subst hA
    rw [addr_at, hc, e]
  · intro z hz
    simp only [lint, List.mem_map] at hz
    obtain ⟨a, ha, rfl⟩ := hz
    have := hl a ha
    exact ⟨by omega, by omega⟩
theorem made32 : madeCells (Value.int .i64 0).cells 32 = ordA zeroO := by
  apply Array.ext_getElem?
  intro i
  by_cases h : i < 32
  · rw [ordA_get _ i h]; simp [madeCells, h, zeroO, Value.cells, Nat.mod_one]
  · rw [Array.getElem?_eq_none (by rw [size_madeCells]; omega), Array.getElem?_eq_none (by rw [ordA_size]; omega)]
theorem make32 (W : World) : (Instr.makeSlice 107 (.int .i64 32) (.int .i64 32)).run Tryz.prog W = .ok (.slice (some ⟨W.heap.size, 0, none⟩) 32 32) (W.alloc (.cells (ordA zeroO) 3)) := by
  obtain ⟨i0, hi, hz0, hz1, hz2⟩ := info_parts int_info
  have := run_make (P := Tryz.prog) W 107 3 i0 (.int .i64 0) Tryz.underlying107 hi hz0 .i64 .i64 32 32 (by omega) (by omega) (by rw [hz2]; omega) (by omega)
  rw [this, hz1, show (Int.toNat 32) * 1 = 32 from rfl, made32]
  rfl
/-- the nodes below k, each at its place. -/
def rowTo (o : Od.O) (k : Nat) : Od.O := fun p => if Od.at_ o p < k then (Od.at_ o p : Int) else 0
theorem rowTo_step {o : Od.O} (h : Od.Right o) {k : Nat} (hk : k < 32) (p : Nat) (hp : p < 32) : Od.upd (rowTo o k) (Od.pl o k) (k : Nat) p = rowTo o (k + 1) p := by
  have h1 := h.pl hk
  unfold Od.upd rowTo
  by_cases e : p = Od.pl o k
  · subst e
    rw [if_pos rfl, h1.2.2, if_pos (by omega)]
  · have : Od.at_ o p ≠ k := fun e2 => e (by rw [← e2, h.pl_at hp])
    rw [if_neg e]
    by_cases h2 : Od.at_ o p < k
    · rw [if_pos h2, if_pos (by omega)]
    · rw [if_neg h2, if_neg (by omega)]
theorem rowTo_zero (o : Od.O) (p : Nat) : zeroO p = rowTo o 0 p := by simp [zeroO, rowTo]
theorem row_own {w : World} {g base : Nat} {o : Od.O} (hr : Od.Right o) (h : OrdAt w g (rowTo o 32) 3) (hb : base ≤ g) : Own w base (.slice (some ⟨g, 0, none⟩) 32 32) (Od.row o) := by
  refine ⟨by simp [vals, Od.row_len], .inr ⟨g, 32, ordA (rowTo o 32), by rw [Od.row_len], hb, h, by rw [Od.row_len]; decide, by unfold maxLen; omega, by rw [ordA_size], ?_⟩⟩
  apply List.ext_getElem?
  intro i
  by_cases hi : i < 32
  · have := ordA_get (rowTo o 32) i hi
    rw [List.getElem?_take, Od.row_len, if_pos (by omega), Array.getElem?_toList, this]
    unfold vals
    rw [List.getElem?_map, Od.row_get hi]
    simp [rowTo, (Od.at_spec hr hi).1]
  · rw [List.getElem?_eq_none (by simp [Od.row_len]; omega), List.getElem?_eq_none (by simp [vals, Od.row_len]; omega)]
def RowRel (o : Od.O) (g : Nat) (w : World) (i : Value) (wr : World) : Prop :=
  ∃ k : Nat, k ≤ 32 ∧ i = .int .i64 k ∧ OrdAt wr g (rowTo o k) 3 ∧ Below w.heap.size w wr
theorem right_val (o : Od.O) (b : Bool) (w : World) (ho : Od.Ok o) (h : Od.rightB o = b) :
    Calls Tryz.prog 173 #[.agg (ordA o)] w fun e w' => e = .returned (.bool b) ∧ Below w.heap.size w w' := by
  have := right_any o w ho
  rw [h] at this; exact this
def RowPost (o : Od.O) (w : World) (e : Ending) (w' : World) : Prop := ∃ v, e = .returned v ∧ Own w' w.heap.size v (Od.row o) ∧ Below w.heap.size w w'
set_option maxHeartbeats 1000000 in
set_option maxRecDepth 100000 in
theorem row_yes (o : Od.O) (w : World) (hr : Od.Right o) : Calls Tryz.prog 183 #[.agg (ordA o)] w (RowPost o w) := by
  have HR := Lib.hid hr
  have HB := Lib.hid (Od.rightB_yes hr)
  have HO := Lib.hid hr.ok
  have H0 := Lib.hid (ordAt_new w o 85)
  have hmk := make32
  clear hr
  go_enter Tryz.func183, Tryz.ntmps183
  go_wp2_with (refine wpList_load_row rfl 85 (.tmp 1) rfl w.heap.size rfl 85 (ordA o) (0, 0) _ H0.out Tryz.underlying85 rfl (ordInfo o) ?_)
  refine (right_val o true _ HO.out HB.out).mono ?_
  rintro e w1 ⟨rfl, hb1⟩
  have H1 := Lib.hid ((H0.out.below hb1).alloc (.cells (ordA zeroO) 3))
  have HB1 := Lib.hid (((below_new w (.cells (ordA o) 85)).trans (hb1.mono (below_new w (.cells (ordA o) 85)).size)))
  clear hb1
  go_wp2_with (refine wpList_load_row rfl 85 (.tmp 1) rfl w.heap.size rfl 85 (ordA o) (0, 0) _ H1.out Tryz.underlying85 rfl (ordInfo o) ?_)
  go_loopw [11] (RowRel o w1.heap.size w) (fun i _ => 32 - (intOf i).toNat)
  case atStart => exact ⟨0, by omega, rfl, (ordAt_new w1 zeroO 3).ext fun i _ => rowTo_zero o i, HB1.out.alloc HB1.out.size _⟩
  case round =>
    obtain ⟨k, hk, rfl, h1, hb⟩ := hrel
    have HL := Lib.hid h1
    by_cases hlt : k < 32
    · have hp := HR.out.pl hlt
      have hg : ∀ W, (Instr.index 85 (.agg (ordA o)) (.int .i64 (k : Nat))).run Tryz.prog W = .ok (.int .i64 (Od.pl o k : Nat)) W := fun W => by rw [index_ord o k hlt, ← hp.1]
      have hp32 := hp.2.1
      have hc := h1.cell _ hp.2.1
      have hf := h1.frozen (Od.pl o k)
      clear h1 hp
      go_wp2
      refine ⟨⟨k + 1, by omega, by go_num, ?_, hb.setCell (by have := HB1.out.size; simp; omega) _⟩, by simp [intOf]; omega⟩
      exact (ordAt_cell HL.out).ext fun i hi => rowTo_step HR.out hlt i hi
    · obtain rfl : k = 32 := by omega
      clear h1
      go_wp2
      go_ret
      exact ⟨_, rfl, row_own HR.out HL.out HB1.out.size, hb⟩
set_option maxHeartbeats 1000000 in
set_option maxRecDepth 100000 in
theorem row_no (o : Od.O) (w : World) (ho : Od.Ok o) (hr : ¬ Od.Right o) :
    Calls Tryz.prog 183 #[.agg (ordA o)] w fun e w' => e = .returned (.slice none 0 0) ∧ Below w.heap.size w w' := by
  have HB := Lib.hid (Od.rightB_no hr)
  have H0 := Lib.hid (ordAt_new w o 85)
  clear hr
  go_enter Tryz.func183, Tryz.ntmps183
  go_wp2_with (refine wpList_load_row rfl 85 (.tmp 1) rfl w.heap.size rfl 85 (ordA o) (0, 0) _ H0.out Tryz.underlying85 rfl (ordInfo o) ?_)
  refine (right_val o false _ ho HB.out).mono ?_
  rintro e w1 ⟨rfl, hb1⟩
  go_wp2
  go_ret
  exact ⟨rfl, (below_new _ _).trans (hb1.mono (below_new w (.cells (ordA o) 85)).size)⟩
end Go.Proofs.YtfdfiiocccafkaaGreatDoor
namespace Go.Proofs.YtfdfiiocccafkaaGreatDoor
open Go.RowKit
theorem band_yes {o : Od.O} {lo hi : Int} {k : Nat} (h1 : lo ≤ o k) (h2 : o k ≤ hi) : Sm.add (Od.band o lo hi k) (k : Nat) = Od.band o lo hi (k + 1) := by
  unfold Od.band; rw [Mm.mk]; simp [h1, h2]
theorem band_no {o : Od.O} {lo hi : Int} {k : Nat} (h : ¬ (lo ≤ o k ∧ o k ≤ hi)) : Od.band o lo hi k = Od.band o lo hi (k + 1) := by
  unfold Od.band; rw [Mm.mk]
  have : (decide (lo ≤ o k) && decide (o k ≤ hi)) = false := by
    rw [Bool.and_eq_false_iff]; simp; omega
  simp [this]
theorem band_lt64 (o : Od.O) (lo hi : Int) (k : Nat) : Od.band o lo hi k < 18446744073709551616 := Mm.mk_lt _ _
set_option maxHeartbeats 1000000 in
set_option maxRecDepth 100000 in
theorem between_any (o : Od.O) (lo hi : Int) (w : World) (ho : Od.Ok o) :
    Calls Tryz.prog 149 #[.agg (ordA o), .int .i64 lo, .int .i64 hi] w fun e w' => e = .returned (.int .u64 (Od.band o lo hi 32 : Nat)) ∧ Below w.heap.size w w' := by
  have H0 := Lib.hid (ordAt_new w o 85)
  go_enter Tryz.func149, Tryz.ntmps149
  go_wp2_with (refine wpList_load_row rfl 85 (.tmp 3) rfl w.heap.size rfl 85 (ordA o) (0, 0) _ H0.out Tryz.underlying85 rfl (ordInfo o) ?_)
  go_loop [7, 11] (fun s i => ∃ k : Nat, k ≤ 32 ∧ i = .int .i64 k ∧ s = .int .u64 (Od.band o lo hi k : Nat)) (fun _ i => 32 - (intOf i).toNat)
  case atStart => exact ⟨0, Nat.zero_le _, rfl, rfl⟩
  case round =>
    obtain ⟨k, hk, rfl, rfl⟩ := hrel
    by_cases hlt : k < 32
    · have hg := index_ord o k hlt
      obtain ⟨b0, b1⟩ := ho k hlt
      have hq := band_lt64 o lo hi k
      by_cases c1 : lo ≤ o k
      · by_cases c2 : o k ≤ hi
        · have HN := Lib.hid (band_yes c1 c2)
          go_wp2_with (go_at_call 111; refine (with_val _ _ _ _ hq (by omega) HN.out).mono ?_; rintro e w' ⟨rfl, rfl⟩)
          go_round
          case rel => exact ⟨k + 1, by omega, by go_num, rfl⟩
          case measure => simp [intOf]; omega
        · have HN := Lib.hid (band_no (o := o) (lo := lo) (hi := hi) (k := k) (by omega))
          have hd : decide (o k ≤ hi) = false := by simpa using c2
          go_wp2
          go_round
          case rel => exact ⟨k + 1, by omega, by go_num, by rw [HN.out]⟩
          case measure => simp [intOf]; omega
      · have HN := Lib.hid (band_no (o := o) (lo := lo) (hi := hi) (k := k) (by omega))
        have hd : decide (lo ≤ o k) = false := by simpa using c1
        go_wp2
        go_round
        case rel => exact ⟨k + 1, by omega, by go_num, by rw [HN.out]⟩
        case measure => simp [intOf]; omega
    · obtain rfl : k = 32 := by omega
      go_wp2
      go_ret
      exact ⟨rfl, below_new _ _⟩
/- standing -/
def standTo (o : Od.O) (s k : Nat) : List Nat := ((Od.row o).take k).filter fun i => s.testBit i
theorem standTo_yes {o : Od.O} {s k : Nat} (hk : k < 32) (h : s.testBit (Od.at_ o k) = true) : standTo o s (k + 1) = standTo o s k ++ [Od.at_ o k] := by
  have hl : k < (Od.row o).length := by rw [Od.row_len]; exact hk
  have e : (Od.row o)[k] = Od.at_ o k := by
    have := Od.row_get (o := o) hk
    rw [List.getElem?_eq_getElem hl] at this
    injection this
  unfold standTo
  rw [List.take_succ_eq_append_getElem hl, List.filter_append, e]
  simp [h]
theorem standTo_no {o : Od.O} {s k : Nat} (hk : k < 32) (h : s.testBit (Od.at_ o k) = false) : standTo o s (k + 1) = standTo o s k := by
  have hl : k < (Od.row o).length := by rw [Od.row_len]; exact hk
  have e : (Od.row o)[k] = Od.at_ o k := by
    have := Od.row_get (o := o) hk
    rw [List.getElem?_eq_getElem hl] at this
    injection this
  unfold standTo
  rw [List.take_succ_eq_append_getElem hl, List.filter_append, e]
  simp [h]
theorem standTo_all (o : Od.O) (s : Nat) : standTo o s 32 = Od.standing o s := by
  unfold standTo Od.standing
  rw [List.take_of_length_le (by rw [Od.row_len]; exact Nat.le_refl _)]
theorem standTo_len (o : Od.O) (s k : Nat) : (standTo o s k).length ≤ 32 := by
  unfold standTo
  have := List.length_filter_le (fun i => s.testBit i) ((Od.row o).take k)
  have h2 : ((Od.row o).take k).length ≤ 32 := by rw [List.length_take, Od.row_len]; exact Nat.min_le_right _ _
  omega
theorem row_at (o : Od.O) {k : Nat} (hk : k < (Od.row o).length) : (Od.row o)[k] = Od.at_ o k := by
  have := Od.row_get (o := o) (p := k) (by rw [Od.row_len] at hk; exact hk)
  rw [List.getElem?_eq_getElem hk] at this
  injection this
theorem vals_snoc (l : List Nat) (k : Nat) : vals (l ++ [k]) = vals l ++ [Value.int IntKind.i64 (k : Nat)] := by simp [vals]
def StandRel (o : Od.O) (s : Nat) (w1 : World) (l i : Value) (wr : World) : Prop :=
  ∃ k : Nat, k ≤ 32 ∧ i = .int .i64 k ∧ Own wr w1.heap.size l (standTo o s k) ∧ Below w1.heap.size w1 wr
def StandPost (o : Od.O) (s : Nat) (w : World) (e : Ending) (w' : World) : Prop := ∃ v, e = .returned v ∧ Own w' w.heap.size v (Od.standing o s) ∧ Below w.heap.size w w'
set_option maxHeartbeats 1000000 in
set_option maxRecDepth 100000 in
theorem standing_any (o : Od.O) (s : Nat) (w : World) (hr : Od.Right o) (hs : s < 4294967296) : Calls Tryz.prog 175 #[.agg (ordA o), .int .u64 s] w (StandPost o s w) := by
  obtain ⟨i0, hi, hz0, hz1, hz2⟩ := info_parts int_info
  have HR := Lib.hid hr
  have H0 := Lib.hid (ordAt_new w o 85)
  have hs64 : s < 18446744073709551616 := by omega
  clear hr
  go_enter Tryz.func175, Tryz.ntmps175
  go_wp2_with (refine wpList_load_row rfl 85 (.tmp 2) rfl w.heap.size rfl 85 (ordA o) (0, 0) _ H0.out Tryz.underlying85 rfl (ordInfo o) ?_)
  refine (row_yes o _ HR.out).mono ?_
  rintro e w1 ⟨v, rfl, hown, hb1⟩
  obtain ⟨A, c, hv, hc1, hc2⟩ := hown.shape
  rw [Od.row_len] at hv hc1
  subst hv
  have HW := Lib.hid hown
  have HB1 := Lib.hid (((below_new w (.cells (ordA o) 85)).trans (hb1.mono (below_new w (.cells (ordA o) 85)).size)))
  clear hb1 hown
  go_wp2_with fail
  go_loopw [5, 11] (StandRel o s w1) (fun _ i _ => 32 - (intOf i).toNat)
  case atStart => exact ⟨0, by omega, rfl, own_nil _ _, Below.refl _ _⟩
  case round =>
    obtain ⟨k, hk, rfl, ho, hb⟩ := hrel
    have HO := Lib.hid ho
    have HBr := Lib.hid hb
    by_cases hlt : k < 32
    · have hW := HW.out.below hb (Nat.le_refl _)
      obtain ⟨g, rfl, hc⟩ := hW.at_ (k := k) (by rw [Od.row_len]; exact hlt)
      rw [row_at o] at hc
      have ha := (Od.at_spec HR.out hlt).1
      clear ho hb hW
      cases ht : s.testBit (Od.at_ o k)
      · have HT := Lib.hid ht
        have HN := Lib.hid (standTo_no hlt ht)
        clear ht
        go_wp2_with (go_at_call 133; refine (has_val _ _ _ _ hs64 (by omega) HT.out).mono ?_; rintro e w' ⟨rfl, rfl⟩)
        refine ⟨⟨k + 1, by omega, by go_num, ?_, HBr.out⟩, by simp [intOf]; omega⟩
        rw [HN.out]; exact HO.out
      · have HT := Lib.hid ht
        have HN := Lib.hid (standTo_yes hlt ht)
        have hll := standTo_len o s k
        have hsz := HBr.out.size
        clear ht
        go_wp2_with (first
          | (go_at_call 133; refine (has_val _ _ _ _ hs64 (by omega) HT.out).mono ?_; rintro e w' ⟨rfl, rfl⟩)
          | (at_builtin; refine wpList_append_own _ rfl _ _ 107 rfl w1.heap.size 3 i0 (.int .i64 0) 1 8 Tryz.underlying107 hi hz0 hz1 hz2 rfl (by decide) _ _ _ rfl (World.ownsRow.alloc HO.out _) ⟨wr.heap.size, 0, none⟩ 1 1 [.int .i64 (Od.at_ o k : Nat)] rfl rfl ?c1 ?c2 ?c3 ?c4 ?c5 ?_))
        case c1 =>
          intro j u hj
          match j, hj with
          | 0, hj => simp at hj; subst hj; simp [Addr.add]
        case c2 => intro u hu; simp at hu; subst hu; rfl
        case c3 => unfold maxLen; omega
        case c4 => omega
        case c5 => simp; omega
        intro v' w2 hown' hgrow _
        have HO' := Lib.hid hown'
        clear hown'
        go_wp2
        refine ⟨⟨k + 1, by omega, by go_num, ?_, ?_⟩, by simp [intOf]; omega⟩
        · unfold Own
          rw [HN.out, vals_snoc, List.length_append]; exact HO'.out
        · exact (HBr.out.alloc HBr.out.size _).grown hgrow (by simp; omega) (fun k hk => (World.ownsRow.lt HO.out k hk).1)
    · obtain rfl : k = 32 := by omega
      clear ho hb
      have HA := Lib.hid (standTo_all o s)
      go_wp2
      go_ret
      refine ⟨_, rfl, ?_, HB1.out.trans (HBr.out.mono HB1.out.size)⟩
      rw [← HA.out]
      exact HO.out.mono HB1.out.size
end Go.Proofs.YtfdfiiocccafkaaGreatDoor
namespace Go.Proofs.YtfdfiiocccafkaaGreatDoor
open Go.RowKit
structure SSt (m : Mm.Gr) (o : Od.O) (w wr : World) : Prop where
  gr : MatAt wr w.heap.size m 84
  od : OrdAt wr (w.heap.size + 1) o 85
  tab : TabAt wr
  bel : Below w.heap.size w wr
theorem SSt.below {m : Mm.Gr} {o : Od.O} {w W W' : World} (h : SSt m o w W) (hb : Below W.heap.size W W') : SSt m o w W' :=
  ⟨h.gr.below hb, h.od.below hb, tab_below h.tab hb, h.bel.trans (hb.mono h.bel.size)⟩
theorem SSt.drew {m : Mm.Gr} {o : Od.O} {w W : World} (h : SSt m o w W) : SSt m o w W.drew := h.below (below_drew W)
theorem SSt.drewN {m : Mm.Gr} {o : Od.O} {w W : World} (h : SSt m o w W) (n : Nat) : SSt m o w (W.drewN n) := h.below (below_drewN (Below.refl _ _) n)
theorem sst_first {m : Mm.Gr} {o : Od.O} {w : World} (hT : TabAt w) : SSt m o w ((w.alloc (.cells (matA m) 84)).alloc (.cells (ordA o) 85)) := by
  refine ⟨(matAt_new _ _ _).alloc _, ?_, tabAt_new (tabAt_new hT _) _, ((Below.refl _ _).alloc (Nat.le_refl _) _).alloc (by simp) _⟩
  have := ordAt_new (w.alloc (.cells (matA m) 84)) o 85
  simpa using this
def SortRel (m : Mm.Gr) (o : Od.O) (w : World) (i : Value) (wr : World) : Prop :=
  ∃ k : Nat, k ≤ 32 ∧ i = .int .i64 k ∧ (∀ i j, i < k → Mm.E m i j → o i < o j) ∧ SSt m o w wr
def SortIn (m : Mm.Gr) (o : Od.O) (w : World) (k : Nat) (v : Value) (base : Nat) (i : Value) (wr : World) : Prop :=
  ∃ n : Nat, n ≤ (Sm.items (Mm.outs m k)).length ∧ i = .int .i64 n ∧ (∀ t j, t < n → (Sm.items (Mm.outs m k))[t]? = some j → o k < o j) ∧ Own wr base v (Sm.items (Mm.outs m k)) ∧ SSt m o w wr
theorem outs_item {m : Mm.Gr} {k t : Nat} (h : t < (Sm.items (Mm.outs m k)).length) : Mm.E m k (Sm.items (Mm.outs m k))[t] :=
  (Mm.outs_test m k _).1 (Sm.items_mem.1 (List.getElem_mem h)).2
theorem outs_mem {m : Mm.Gr} {k j : Nat} (h : Mm.E m k j) : ∃ t, t < (Sm.items (Mm.outs m k)).length ∧ (Sm.items (Mm.outs m k))[t]? = some j := by
  have hm : j ∈ Sm.items (Mm.outs m k) := Sm.items_mem.2 ⟨by have := h.2.1; omega, (Mm.outs_test m k j).2 h⟩
  obtain ⟨t, ht, e⟩ := List.mem_iff_getElem.1 hm
  exact ⟨t, ht, by rw [List.getElem?_eq_getElem ht, e]⟩
set_option maxHeartbeats 1000000 in
set_option maxRecDepth 100000 in
theorem sorted_not (m : Mm.Gr) (o : Od.O) (w : World) (ho : Od.Ok o) (hr : ¬ Od.Right o) (hT : TabAt w) :
    Calls Tryz.prog 148 #[.agg (matA m), .agg (ordA o)] w fun e w' => e = .returned (.bool (Od.sortedB m o)) ∧ Below w.heap.size w w' := by
  have HB := Lib.hid (Od.rightB_no hr)
  have HS := Lib.hid (Od.sortedB_no (m := m) (o := o) fun h => hr h.1)
  have H0 := Lib.hid (sst_first (m := m) (o := o) hT)
  clear hr hT
  go_enter Tryz.func148, Tryz.ntmps148
  go_wp2_with (refine wpList_load_row rfl 85 (.tmp 3) rfl (w.heap.size + 1) rfl 85 (ordA o) (0, 0) _ H0.out.od Tryz.underlying85 rfl (ordInfo o) ?_)
  refine (right_val o false _ ho HB.out).mono ?_
  rintro e w1 ⟨rfl, hb1⟩
  go_wp2
  go_ret
  rw [HS.out]
  exact ⟨rfl, (H0.out.below hb1).bel⟩
set_option maxHeartbeats 1000000 in
set_option maxRecDepth 100000 in
theorem sorted_right (m : Mm.Gr) (o : Od.O) (w : World) (hm : Mm.Ok m) (hr : Od.Right o) (hT : TabAt w) :
    Calls Tryz.prog 148 #[.agg (matA m), .agg (ordA o)] w fun e w' => e = .returned (.bool (Od.sortedB m o)) ∧ Below w.heap.size w w' := by
  have HR := Lib.hid hr
  have HB := Lib.hid (Od.rightB_yes hr)
  have HO := Lib.hid hr.ok
  have H0 := Lib.hid (sst_first (m := m) (o := o) hT)
  clear hr hT
  go_enter Tryz.func148, Tryz.ntmps148
  go_wp2_with (refine wpList_load_row rfl 85 (.tmp 3) rfl (w.heap.size + 1) rfl 85 (ordA o) (0, 0) _ H0.out.od Tryz.underlying85 rfl (ordInfo o) ?_)
  refine (right_val o true _ HO.out HB.out).mono ?_
  rintro e w1 ⟨rfl, hb1⟩
  have H1 := Lib.hid (H0.out.below hb1)
  clear hb1
  go_wp2
  go_loopw [11] (SortRel m o w) (fun i _ => 32 - (intOf i).toNat)
  case atStart => exact ⟨0, by omega, rfl, fun i j hi => absurd hi (by omega), H1.out⟩
  case round =>
    obtain ⟨k, hk, rfl, hS, hst⟩ := hrel
    have HS := Lib.hid hS
    have HST := Lib.hid hst
    clear hS hst
    by_cases hlt : k < 32
    · have hl := Mm.outs_lt m k
      have hl64 : Mm.outs m k < 18446744073709551616 := by omega
      go_wp2_with (refine wpList_load_row rfl 84 (.tmp 2) rfl w.heap.size rfl 84 (matA m) (0, 0) _ HST.out.gr Tryz.underlying84 rfl (matInfo m) ?_)
      refine (outs_in m k _ hm hlt).mono ?_
      rintro e w2 ⟨rfl, hb2⟩
      have HS2 := Lib.hid (HST.out.below hb2)
      clear hb2
      go_wp2_with fail
      refine (items_any _ _ hl64 HS2.out.tab).mono ?_
      rintro e w3 ⟨v, rfl, hown, hb3⟩
      have HS3 := Lib.hid (HS2.out.below hb3)
      have HW := Lib.hid (show Own w3 w2.heap.size v (Sm.items (Mm.outs m k)) from hown)
      obtain ⟨A, c, rfl, hc1, hc2⟩ := HW.out.shape
      have hlen := Sm.items_len (Mm.outs m k)
      clear hb3 hown
      go_wp2
      go_loopw [19] (SortIn m o w k (.slice A (Sm.items (Mm.outs m k)).length c) w2.heap.size) (fun i _ => 64 - (intOf i).toNat)
      case atStart => exact ⟨0, by omega, rfl, fun t j ht => absurd ht (by omega), HW.out, HS3.out⟩
      case round =>
        obtain ⟨n, hn, rfl, hlow, hown, hst⟩ := hrel
        have HLow := Lib.hid hlow
        have HOw := Lib.hid hown
        have HSr := Lib.hid hst
        clear hlow
        by_cases hnl : n < (Sm.items (Mm.outs m k)).length
        · obtain ⟨g, rfl, hc⟩ := hown.at_ hnl
          have he := outs_item hnl
          have hj := he.2.1
          have HE := Lib.hid he
          have HJ := Lib.hid (List.getElem?_eq_getElem hnl)
          clear he
          generalize (Sm.items (Mm.outs m k))[n] = j at *
          have d1 := hst.od.cell k hlt
          have d2 := hst.od.cell j hj
          clear hown hst
          by_cases hlow : o k < o j
          · go_wp2
            go_quiet (fail)
            go_wp2
            refine ⟨⟨n + 1, by omega, by go_num, fun t j' ht hj' => ?_, HOw.out, HSr.out.drewN _⟩, by simp [intOf]; omega⟩
            by_cases e : t = n
            · subst e
              rw [HJ.out] at hj'
              injection hj' with hj'
              subst hj'
              exact hlow
            · exact HLow.out t j' (by omega) hj'
          · have hge : o j ≤ o k := by omega
            have HF := Lib.hid (Od.sortedB_no (m := m) (o := o) fun h => hlow (h.2 k j HE.out))
            go_wp2
            go_quiet (fail)
            go_wp2
            go_ret
            rw [HF.out]
            exact ⟨rfl, (HSr.out.drewN _).bel⟩
        · obtain rfl : n = (Sm.items (Mm.outs m k)).length := by omega
          clear hown hst
          go_wp2
          refine ⟨⟨k + 1, by omega, by go_num, fun i j hi he => ?_, HSr.out⟩, by simp [intOf]; omega⟩
          by_cases e : i = k
          · subst e
            obtain ⟨t, ht, hj⟩ := outs_mem he
            exact HLow.out t j ht hj
          · exact HS.out i j (by omega) he
    · obtain rfl : k = 32 := by omega
      have HF := Lib.hid (Od.sortedB_yes ⟨HR.out, fun i j he => HS.out i j he.1 he⟩)
      go_wp2
      go_ret
      rw [HF.out]
      exact ⟨rfl, HST.out.bel⟩
theorem sorted_any (m : Mm.Gr) (o : Od.O) (w : World) (hm : Mm.Ok m) (ho : Od.Ok o) (hT : TabAt w) :
    Calls Tryz.prog 148 #[.agg (matA m), .agg (ordA o)] w fun e w' => e = .returned (.bool (Od.sortedB m o)) ∧ Below w.heap.size w w' := by
  by_cases hr : Od.Right o
  · exact sorted_right m o w hm hr hT
  · exact sorted_not m o w ho hr hT
theorem sorted_val (m : Mm.Gr) (o : Od.O) (b : Bool) (w : World) (hm : Mm.Ok m) (ho : Od.Ok o) (hT : TabAt w) (h : Od.sortedB m o = b) :
    Calls Tryz.prog 148 #[.agg (matA m), .agg (ordA o)] w fun e w' => e = .returned (.bool b) ∧ Below w.heap.size w w' := by
  have := sorted_any m o w hm ho hT
  rw [h] at this; exact this
end Go.Proofs.YtfdfiiocccafkaaGreatDoor
namespace Go.Proofs.YtfdfiiocccafkaaGreatDoor
open Go.RowKit
attribute [local go_sem ↓] Go.wp_at_zero Go.wp_at_succ
/-- a value laid into its slot, in one. -/
theorem put_laws : (∀ (a : Act) (d : Nat) (v : Value), a.put (some d) v = { a with tmps := a.tmps.setIfInBounds d v }) ∧ (∀ (l : List Value) (i : Nat) (v : Value), l.toArray.setIfInBounds i v = (l.set i v).toArray) ∧
    (∀ (x y : Value) (l : List Value), (x :: l).set 0 y = y :: l) ∧ (∀ (x y : Value) (l : List Value) (n : Nat), (x :: l).set (n + 1) y = x :: l.set n y) :=
  ⟨fun _ _ _ => rfl, fun _ _ _ => by simp, fun _ _ _ => rfl, fun _ _ _ _ => rfl⟩
/-- where the literals find the band and the graph. -/
structure LSt (x gb : Nat) (m : Mm.Gr) (g : Nat) (W : World) : Prop where
  cell : W.cell? ⟨gb, 0, none⟩ = some (.int .u64 (x : Nat))
  gr : MatAt W g m 84
theorem LSt.below {x gb g : Nat} {m : Mm.Gr} {W W' : World} (h : LSt x gb m g W) (hb : Below W.heap.size W W') : LSt x gb m g W' :=
  ⟨(hb.cell (p := ⟨gb, 0, none⟩) (cell_lt h.cell)).trans h.cell, h.gr.below hb⟩
structure LIn (w : World) (x gb : Nat) (m : Mm.Gr) (g : Nat) (W : World) : Prop where
  l : LSt x gb m g W
  bel : Below w.heap.size w W
theorem LIn.below {w W W' : World} {x gb g : Nat} {m : Mm.Gr} (h : LIn w x gb m g W) (hb : Below W.heap.size W W') : LIn w x gb m g W' := ⟨h.l.below hb, h.bel.trans (hb.mono h.bel.size)⟩
theorem and_key {x y : Nat} (hx : x < 4294967296) (hy : y < 4294967296) : bits .and .u64 (x : Int) (y : Int) = ((x &&& y : Nat) : Int) := bits_and_u64_nat x y (by omega) (by omega)
set_option maxHeartbeats 1000000 in
set_option maxRecDepth 100000 in
theorem foreL_in (m : Mm.Gr) (x gb g b : Nat) (w : World) (hm : Mm.Ok m) (hx : x < 4294967296) (hb : b < 32) (hl : LSt x gb m g w) :
    Calls Tryz.prog 151 #[.int .i64 (b : Nat), .pointer (some ⟨gb, 0, none⟩), .pointer (some ⟨g, 0, none⟩)] w fun e w' => e = .returned (.int .u64 (x &&& Mm.outs m b : Nat)) ∧ Below w.heap.size w w' := by
  have HL := Lib.hid (LIn.mk hl (Below.refl w.heap.size w))
  have HK := Lib.hid (and_key hx (Mm.outs_lt m b))
  clear hl
  go_enter Tryz.func151, Tryz.ntmps151
  go_wp2_with fail
  refine wp_region_noPanic ?_
  refine region_start (S := LIn w x gb m g) 6 rfl (by kernel_rfl) (HL.out.below (below_drew w)) (fun hHeld => ?_)
  refine take_at 0 5 (.int .u64 (x : Nat)) rfl rfl (by kernel_rfl) (by kernel_rfl) (by kernel_rfl) (fun _ _ _ h => h) (Or.inl ⟨by rfl, by intro W hW; have hc := hW.l.cell; clear hW; go_simp⟩) hHeld ?_
  simp only [put_laws]
  refine take_at 1 6 (.agg (matA m)) rfl rfl (by kernel_rfl) (by kernel_rfl) (by kernel_rfl) (fun _ _ _ h => h) (yields_row (by rfl) 84 (.tmp 2) rfl (g) rfl 84 (matA m) (fun W h => h.l.gr) Tryz.underlying84 (matInfo _)) hHeld ?_
  simp only [put_laws]
  refine take_at 2 7 (.int .i64 (b : Nat)) rfl rfl (by kernel_rfl) (by kernel_rfl) (by kernel_rfl) (fun _ _ _ h => h) (Or.inl ⟨by rfl, by intro W hW; clear hW; go_simp⟩) hHeld ?_
  simp only [put_laws]
  refine wpAnyH_ready (rs := [3]) (by kernel_rfl) (by simp) ?_
  refine AllReadyH.cons rfl (fun K hK => ?_) AllReadyH.nil
  go_simp
  refine (outs_in m b _ hm hb).mono ?_
  rintro e w1 ⟨rfl, hb1⟩
  try go_simp
  have hHeld := hHeld.below hb1
  refine hK.out _ _ hHeld (fun hHeld => ?_)
  clear hK K
  refine take_at 4 9 (.int .u64 (x &&& Mm.outs m b : Nat)) rfl rfl (by kernel_rfl) (by kernel_rfl) (by kernel_rfl) (fun _ _ _ h => h) (Or.inl ⟨by rfl, by intro W hW; have hk := HK.out; clear hW; go_simp⟩) hHeld ?_
  simp only [put_laws]
  refine take_at 5 4 (.int .u64 (x &&& Mm.outs m b : Nat)) rfl rfl (by kernel_rfl) (by kernel_rfl) (by kernel_rfl) (fun _ _ _ h => h) (Or.inl ⟨by rfl, by intro W hW; clear hW; go_simp⟩) hHeld ?_
  simp only [put_laws]
  refine wpAnyH_done (by kernel_rfl) ?_ _
  refine NoPanic.normal ?_
  go_wp2
  go_ret
  exact ⟨rfl, hHeld.bel⟩
set_option maxHeartbeats 1000000 in
set_option maxRecDepth 100000 in
theorem hindL_in (m : Mm.Gr) (x gb g b : Nat) (w : World) (hm : Mm.Ok m) (hx : x < 4294967296) (hb : b < 32) (hl : LSt x gb m g w) :
    Calls Tryz.prog 153 #[.int .i64 (b : Nat), .pointer (some ⟨gb, 0, none⟩), .pointer (some ⟨g, 0, none⟩)] w fun e w' => e = .returned (.int .u64 (x &&& Mm.ins m b : Nat)) ∧ Below w.heap.size w w' := by
  have HL := Lib.hid (LIn.mk hl (Below.refl w.heap.size w))
  have HK := Lib.hid (and_key hx (Mm.ins_lt m b))
  clear hl
  go_enter Tryz.func153, Tryz.ntmps153
  go_wp2_with fail
  refine wp_region_noPanic ?_
  refine region_start (S := LIn w x gb m g) 6 rfl (by kernel_rfl) (HL.out.below (below_drew w)) (fun hHeld => ?_)
  refine take_at 0 5 (.int .u64 (x : Nat)) rfl rfl (by kernel_rfl) (by kernel_rfl) (by kernel_rfl) (fun _ _ _ h => h) (Or.inl ⟨by rfl, by intro W hW; have hc := hW.l.cell; clear hW; go_simp⟩) hHeld ?_
  simp only [put_laws]
  refine take_at 1 6 (.agg (matA m)) rfl rfl (by kernel_rfl) (by kernel_rfl) (by kernel_rfl) (fun _ _ _ h => h) (yields_row (by rfl) 84 (.tmp 2) rfl (g) rfl 84 (matA m) (fun W h => h.l.gr) Tryz.underlying84 (matInfo _)) hHeld ?_
  simp only [put_laws]
  refine take_at 2 7 (.int .i64 (b : Nat)) rfl rfl (by kernel_rfl) (by kernel_rfl) (by kernel_rfl) (fun _ _ _ h => h) (Or.inl ⟨by rfl, by intro W hW; clear hW; go_simp⟩) hHeld ?_
  simp only [put_laws]
  refine wpAnyH_ready (rs := [3]) (by kernel_rfl) (by simp) ?_
  refine AllReadyH.cons rfl (fun K hK => ?_) AllReadyH.nil
  go_simp
  refine (ins_in m b _ hm hb).mono ?_
  rintro e w1 ⟨rfl, hb1⟩
  try go_simp
  have hHeld := hHeld.below hb1
  refine hK.out _ _ hHeld (fun hHeld => ?_)
  clear hK K
  refine take_at 4 9 (.int .u64 (x &&& Mm.ins m b : Nat)) rfl rfl (by kernel_rfl) (by kernel_rfl) (by kernel_rfl) (fun _ _ _ h => h) (Or.inl ⟨by rfl, by intro W hW; have hk := HK.out; clear hW; go_simp⟩) hHeld ?_
  simp only [put_laws]
  refine take_at 5 4 (.int .u64 (x &&& Mm.ins m b : Nat)) rfl rfl (by kernel_rfl) (by kernel_rfl) (by kernel_rfl) (fun _ _ _ h => h) (Or.inl ⟨by rfl, by intro W hW; clear hW; go_simp⟩) hHeld ?_
  simp only [put_laws]
  refine wpAnyH_done (by kernel_rfl) ?_ _
  refine NoPanic.normal ?_
  go_wp2
  go_ret
  exact ⟨rfl, hHeld.bel⟩
end Go.Proofs.YtfdfiiocccafkaaGreatDoor
namespace Go.Proofs.YtfdfiiocccafkaaGreatDoor
open Go.RowKit
def TSpreadJ (nx : Nat → Nat) (x R : Nat) (a0 : Value) (fv : Value) (w : World) (a' : Act) (w' : World) : Prop :=
  ∃ (d o : Nat) (u7 u8 u9 u10 u11 u12 u13 u14 u15 u16 u17 u18 u19 u20 u21 u22 u23 u24 u25 : Value),
    a' = { tmps := #[a0, fv, undef, undef, .int .u64 0, .int .u64 d, .int .u64 o, u7, u8, u9, u10, u11, u12, u13, u14, u15, u16, u17, u18, u19, u20, u21, u22, u23, u24, u25], defers := [] } ∧
    Mm.Inv nx x R d o ∧ Below w.heap.size w w'
theorem one_ints (w : World) (a : Nat) (ha : a < 32) : IntsAt (w.alloc (.cells #[.int .i64 (a : Nat)] 3)) (some ⟨w.heap.size, 0, none⟩) 1 [(a : Int)] := by
  refine ⟨rfl, fun _ => ⟨_, rfl, fun j z hz => ?_⟩, fun z hz => ?_⟩
  · match j, hz with
    | 0, hz =>
      simp at hz
      subst hz
      simp [Addr.add]
  · simp at hz
    subst hz
    exact ⟨by omega, by omega⟩
theorem one_set (a : Nat) : Sm.ofL 0 [(a : Int)] = Sm.add 0 (a : Int) := rfl
theorem one_lt {a : Nat} (ha : a < 32) : Sm.add 0 (a : Int) < 4294967296 := Mm.lt32 fun j hj => by rw [(Od.one_test ha j).1 hj]; exact ha
theorem fore_nx (m : Mm.Gr) (x c : Nat) : x &&& Mm.outs m c < 4294967296 := Nat.lt_of_le_of_lt Nat.and_le_right (Mm.outs_lt m c)
set_option maxHeartbeats 1000000 in
set_option maxRecDepth 100000 in
theorem tspread_fore (m : Mm.Gr) (x gb g a R : Nat) (w : World) (hm : Mm.Ok m) (hx : x < 4294967296) (ha : a < 32) (hl : LSt x gb m g w) (hT : TabAt w) (hR : Mm.Least (fun c => x &&& Mm.outs m c) (Sm.add 0 (a : Int)) R) :
    Calls Tryz.prog 150 #[.int .i64 (a : Nat), .func (.func 151) #[] #[.pointer (some ⟨gb, 0, none⟩), .pointer (some ⟨g, 0, none⟩)]] w fun e w' => e = .returned (.int .u64 R) ∧ Below w.heap.size w w' := by
  have HG := Lib.hid hl
  have HT := Lib.hid hT
  have HR := Lib.hid hR
  have HI1 := Lib.hid (one_ints w a ha)
  have HS1 := Lib.hid (one_set a)
  clear hl hT hR
  go_enter Tryz.func150, Tryz.ntmps150
  go_wp2
  refine wp_scope_jumps3 0 (TSpreadJ (fun c => x &&& Mm.outs m c) (Sm.add 0 (a : Int)) R (.int .i64 (a : Nat)) (.func (.func 151) #[] #[.pointer (some ⟨gb, 0, none⟩), .pointer (some ⟨g, 0, none⟩)]) w) (fun a' _ => 4294967296 - (intOf (a'.tmps.getD 5 undef)).toNat) rfl ?_ ?_
  · intro hp
    have HP := Lib.hid hp
    clear hp
    go_wp2_with (go_at_call 174; refine (of_any _ 1 1 _ _ (by decide) HI1.out).mono ?_; rintro e w1 ⟨rfl, rfl⟩)
    go_step3
    rename_i hK
    apply hK
    rw [HS1.out]
    exact HP.out _ _ ⟨0, _, _, _, _, _, _, _, _, _, _, _, _, _, _, _, _, _, _, _, _, rfl, Mm.inv_first HR.out (one_lt ha), below_new _ _⟩
  · rintro a' wr ⟨d, o, u7, u8, u9, u10, u11, u12, u13, u14, u15, u16, u17, u18, u19, u20, u21, u22, u23, u24, u25, rfl, hi, hbel⟩
    have HI := Lib.hid hi
    have hdl := hi.dlt
    have hol := hi.olt
    have HTr := Lib.hid (HT.out.below hbel HT.out.lt)
    have HGr := Lib.hid (HG.out.below hbel)
    clear hi
    by_cases h0 : o = 0
    · subst h0
      have HE := Lib.hid (Mm.inv_last HR.out HI.out)
      go_wp2
      simp only [Exit.jump]
      go_ret
      rw [HE.out]
      exact ⟨rfl, hbel⟩
    · have ho64 : o < 18446744073709551616 := by omega
      have hd64 : d < 18446744073709551616 := by omega
      have hy0 : ((o : Int) == 0) = false := by simpa using h0
      obtain ⟨hf1, hf2, hf3⟩ := Sm.first_spec h0 ho64
      have hf32 := Mm.test32 hol hf2
      obtain ⟨hin, hlt⟩ := Mm.inv_next HR.out (fun c => fore_nx m x c) HI.out hf2
      have HN := Lib.hid hin
      have HL := Lib.hid hlt
      have HK := Lib.hid (open_key (fun c => x &&& Mm.outs m c) (b := Sm.first o) hol (fore_nx m x _) hdl rfl)
      have hadl := hin.dlt
      have HAD := Lib.hid hadl
      clear hf2 hf3 hin hlt
      go_wp2_with (first
        | (go_at_call 80; refine (first_any _ _ ho64 h0 HTr.out).mono ?_; rintro e w' ⟨rfl, rfl⟩)
        | (go_at_call 111; refine (with_val _ _ _ _ hd64 (by omega) rfl).mono ?_; rintro e w' ⟨rfl, rfl⟩)
        | (go_at_call 151; refine (foreL_in m x gb g _ _ hm hx hf32 HGr.out).mono ?_; rintro e w2 ⟨rfl, hb2⟩))
      go_step3
      rw [HK.out]
      refine ⟨rfl, ⟨_, _, _, _, _, _, _, _, _, _, _, _, _, _, _, _, _, _, _, _, _, rfl, HN.out, hbel.trans (hb2.mono hbel.size)⟩, ?_⟩
      show 4294967296 - (intOf (.int .u64 (Sm.add d (Sm.first o : Nat) : Nat))).toNat < 4294967296 - (intOf (.int .u64 (d : Nat))).toNat
      simp only [intOf, Int.toNat_natCast]
      have := HL.out
      have := HAD.out
      omega
theorem hind_nx (m : Mm.Gr) (x c : Nat) : x &&& Mm.ins m c < 4294967296 := Nat.lt_of_le_of_lt Nat.and_le_right (Mm.ins_lt m c)
set_option maxHeartbeats 1000000 in
set_option maxRecDepth 100000 in
theorem tspread_hind (m : Mm.Gr) (x gb g a R : Nat) (w : World) (hm : Mm.Ok m) (hx : x < 4294967296) (ha : a < 32) (hl : LSt x gb m g w) (hT : TabAt w) (hR : Mm.Least (fun c => x &&& Mm.ins m c) (Sm.add 0 (a : Int)) R) :
    Calls Tryz.prog 150 #[.int .i64 (a : Nat), .func (.func 153) #[] #[.pointer (some ⟨gb, 0, none⟩), .pointer (some ⟨g, 0, none⟩)]] w fun e w' => e = .returned (.int .u64 R) ∧ Below w.heap.size w w' := by
  have HG := Lib.hid hl
  have HT := Lib.hid hT
  have HR := Lib.hid hR
  have HI1 := Lib.hid (one_ints w a ha)
  have HS1 := Lib.hid (one_set a)
  clear hl hT hR
  go_enter Tryz.func150, Tryz.ntmps150
  go_wp2
  refine wp_scope_jumps3 0 (TSpreadJ (fun c => x &&& Mm.ins m c) (Sm.add 0 (a : Int)) R (.int .i64 (a : Nat)) (.func (.func 153) #[] #[.pointer (some ⟨gb, 0, none⟩), .pointer (some ⟨g, 0, none⟩)]) w) (fun a' _ => 4294967296 - (intOf (a'.tmps.getD 5 undef)).toNat) rfl ?_ ?_
  · intro hp
    have HP := Lib.hid hp
    clear hp
    go_wp2_with (go_at_call 174; refine (of_any _ 1 1 _ _ (by decide) HI1.out).mono ?_; rintro e w1 ⟨rfl, rfl⟩)
    go_step3
    rename_i hK
    apply hK
    rw [HS1.out]
    exact HP.out _ _ ⟨0, _, _, _, _, _, _, _, _, _, _, _, _, _, _, _, _, _, _, _, _, rfl, Mm.inv_first HR.out (one_lt ha), below_new _ _⟩
  · rintro a' wr ⟨d, o, u7, u8, u9, u10, u11, u12, u13, u14, u15, u16, u17, u18, u19, u20, u21, u22, u23, u24, u25, rfl, hi, hbel⟩
    have HI := Lib.hid hi
    have hdl := hi.dlt
    have hol := hi.olt
    have HTr := Lib.hid (HT.out.below hbel HT.out.lt)
    have HGr := Lib.hid (HG.out.below hbel)
    clear hi
    by_cases h0 : o = 0
    · subst h0
      have HE := Lib.hid (Mm.inv_last HR.out HI.out)
      go_wp2
      simp only [Exit.jump]
      go_ret
      rw [HE.out]
      exact ⟨rfl, hbel⟩
    · have ho64 : o < 18446744073709551616 := by omega
      have hd64 : d < 18446744073709551616 := by omega
      have hy0 : ((o : Int) == 0) = false := by simpa using h0
      obtain ⟨hf1, hf2, hf3⟩ := Sm.first_spec h0 ho64
      have hf32 := Mm.test32 hol hf2
      obtain ⟨hin, hlt⟩ := Mm.inv_next HR.out (fun c => hind_nx m x c) HI.out hf2
      have HN := Lib.hid hin
      have HL := Lib.hid hlt
      have HK := Lib.hid (open_key (fun c => x &&& Mm.ins m c) (b := Sm.first o) hol (hind_nx m x _) hdl rfl)
      have hadl := hin.dlt
      have HAD := Lib.hid hadl
      clear hf2 hf3 hin hlt
      go_wp2_with (first
        | (go_at_call 80; refine (first_any _ _ ho64 h0 HTr.out).mono ?_; rintro e w' ⟨rfl, rfl⟩)
        | (go_at_call 111; refine (with_val _ _ _ _ hd64 (by omega) rfl).mono ?_; rintro e w' ⟨rfl, rfl⟩)
        | (go_at_call 153; refine (hindL_in m x gb g _ _ hm hx hf32 HGr.out).mono ?_; rintro e w2 ⟨rfl, hb2⟩))
      go_step3
      rw [HK.out]
      refine ⟨rfl, ⟨_, _, _, _, _, _, _, _, _, _, _, _, _, _, _, _, _, _, _, _, _, rfl, HN.out, hbel.trans (hb2.mono hbel.size)⟩, ?_⟩
      show 4294967296 - (intOf (.int .u64 (Sm.add d (Sm.first o : Nat) : Nat))).toNat < 4294967296 - (intOf (.int .u64 (d : Nat))).toNat
      simp only [intOf, Int.toNat_natCast]
      have := HL.out
      have := HAD.out
      omega
end Go.Proofs.YtfdfiiocccafkaaGreatDoor
namespace Go.Proofs.YtfdfiiocccafkaaGreatDoor
open Go.RowKit
attribute [local go_sem ↓] Go.wp_at_zero Go.wp_at_succ
structure RlSt (w : World) (q : Od.O) (W : World) : Prop where
  od : OrdAt W w.heap.size q 85
  res : OrdAt W (w.heap.size + 1) zeroO 85
  bel : Below w.heap.size w W
theorem RlSt.below {w W W' : World} {q : Od.O} (h : RlSt w q W) (hb : Below W.heap.size W W') : RlSt w q W' := ⟨h.od.below hb, h.res.below hb, h.bel.trans (hb.mono h.bel.size)⟩
theorem rlSt_first (w : World) (o : Od.O) : RlSt w o ((w.alloc (.cells (ordA o) 85)).alloc (.cells (Array.replicate 32 (Value.int .i64 0)) 85)) := by
  refine ⟨(ordAt_new _ _ _).alloc _, ?_, ((Below.refl _ _).alloc (Nat.le_refl _) _).alloc (by simp) _⟩
  have := zeroO_lit (w.alloc (.cells (ordA o) 85)) 85
  simpa using this
theorem RlSt.set {w W : World} {q : Od.O} (h : RlSt w q W) (k : Nat) (v : Int) : RlSt w (Od.upd q k v) (W.setCell ⟨w.heap.size, k, none⟩ (.int .i64 v)) :=
  ⟨ordAt_cell h.od, h.res.setCell _ _ (by simp), h.bel.setCell (by simp) _⟩
theorem RlSt.ext {w W : World} {q r : Od.O} (h : RlSt w q W) (e : q = r) : RlSt w r W := e ▸ h
/-- the set of the places of the first k nodes of a row. -/
def hadTo (o : Od.O) (L : List Nat) (k : Nat) : Nat := Sm.ofL 0 ((L.take k).map o)
theorem hadTo_lt (o : Od.O) (L : List Nat) (k : Nat) : hadTo o L k < 18446744073709551616 := Sm.ofL_lt _ (by decide)
theorem hadTo_step {o : Od.O} {L : List Nat} {k : Nat} (hk : k < L.length) : Sm.add (hadTo o L k) (o L[k]) = hadTo o L (k + 1) := by
  unfold hadTo
  rw [List.take_succ_eq_append_getElem hk, List.map_append, Sm.ofL_append]
  rfl
def both (o : Od.O) (H F : Nat) : List Nat := Od.standing o H ++ Od.standing o F
theorem both_mem {o : Od.O} (h : Od.Right o) {H F i : Nat} : i ∈ both o H F ↔ i < 32 ∧ (H ||| F).testBit i = true := by
  unfold both
  rw [List.mem_append, Od.standing_mem h, Od.standing_mem h, Nat.testBit_or, Bool.or_eq_true]
  constructor
  · rintro (⟨h1, h2⟩ | ⟨h1, h2⟩)
    · exact ⟨h1, .inl h2⟩
    · exact ⟨h1, .inr h2⟩
  · rintro ⟨h1, h2 | h2⟩
    · exact .inl ⟨h1, h2⟩
    · exact .inr ⟨h1, h2⟩
theorem both_lt {o : Od.O} (h : Od.Right o) {H F k : Nat} (hk : k < (both o H F).length) : (both o H F)[k] < 32 := ((both_mem h).1 (List.getElem_mem hk)).1
theorem filter64 (p : Nat → Bool) (h : ∀ j, 32 ≤ j → p j = false) : (List.range 64).filter p = (List.range 32).filter p := by
  have e : List.range 64 = List.range 32 ++ (List.range' 32 32) := by decide
  rw [e, List.filter_append]
  have : (List.range' 32 32).filter p = [] := by
    rw [List.filter_eq_nil_iff]
    intro a ha
    rw [List.mem_range'_1] at ha
    rw [h a ha.1]; simp
  rw [this, List.append_nil]
theorem had_items {o : Od.O} (h : Od.Right o) (H F : Nat) : Sm.items (hadTo o (both o H F) (both o H F).length) = Od.placesOf o (H ||| F) := by
  have ht : ∀ j, (hadTo o (both o H F) (both o H F).length).testBit j = (decide (j < 32) && (H ||| F).testBit (Od.at_ o j)) := fun j => by
    by_cases hj : j < 64
    · unfold hadTo
      rw [List.take_of_length_le (Nat.le_refl _), Sm.ofL_test _ _ _ hj, Nat.zero_testBit, Bool.false_or, Bool.eq_iff_iff, decide_eq_true_iff, List.mem_map, Bool.and_eq_true, decide_eq_true_iff]
      constructor
      · rintro ⟨i, hi, e⟩
        have hm := (both_mem h).1 hi
        have := h.at_eq hm.1 e
        rw [this.2]
        exact ⟨this.1, hm.2⟩
      · rintro ⟨h1, h2⟩
        have hs := Od.at_spec h h1
        exact ⟨_, (both_mem h).2 ⟨hs.1, h2⟩, hs.2⟩
    · rw [Sm.test_big (hadTo_lt _ _ _) (by omega), decide_eq_false (by omega)]; rfl
  unfold Sm.items Od.placesOf
  rw [filter64 _ fun j hj => by rw [ht, decide_eq_false (by omega)]; rfl]
  apply List.filter_congr
  intro a ha
  rw [List.mem_range] at ha
  rw [ht, decide_eq_true ha]; rfl
theorem grown_ord {W W' : World} {row : Option Nat} {g t : Nat} {q : Od.O} (h : OrdAt W g q t) (hg : W.grownBy W' row) (hne : some g ≠ row) : OrdAt W' g q t := (hg.block g h.lt hne).trans h
def RlOne (o : Od.O) (w : World) (L : List Nat) (v : Value) (base : Nat) (had i : Value) (wr : World) : Prop :=
  ∃ k : Nat, k ≤ L.length ∧ i = .int .i64 k ∧ had = .int .u64 (hadTo o L k : Nat) ∧ Own wr base v L ∧ RlSt w o wr
def RlTwo (o : Od.O) (w : World) (L P : List Nat) (v u : Value) (base base' : Nat) (i : Value) (wr : World) : Prop :=
  ∃ k : Nat, k ≤ P.length ∧ i = .int .i64 k ∧ Own wr base v L ∧ Own wr base' u P ∧ RlSt w (Od.give o ((L.zip P).take k)) wr
set_option maxHeartbeats 2000000 in
set_option maxRecDepth 100000 in
theorem relay_any (o : Od.O) (H F b : Nat) (w : World) (hr : Od.Right o) (hH : H < 4294967296) (hF : F < 4294967296) (hap : Od.Apart H F) (hb : b < 32) (hbF : F.testBit b = true) (hT : TabAt w) :
    Calls Tryz.prog 155 #[.agg (ordA o), .int .u64 H, .int .u64 F] w fun e w' => e = .returned (.agg (ordA (Od.relay o H F))) ∧ Below w.heap.size w w' := by
  obtain ⟨i0, hi, hz0, hz1, hz2⟩ := info_parts int_info
  have HR := Lib.hid hr
  have HT := Lib.hid hT
  have HA := Lib.hid hap
  have H0 := Lib.hid (rlSt_first w o)
  have hpos : 0 < (Od.standing o F).length := List.length_pos_of_mem ((Od.standing_mem hr).2 ⟨hb, hbF⟩)
  have hl1 := Od.standing_len o H
  have hl2 := Od.standing_len o F
  clear hr hT hap hbF
  go_enter Tryz.func155, Tryz.ntmps155
  go_wp2_with fail
  refine wp_region_noPanic ?_
  refine region_start (S := RlSt w o) 8 rfl (by kernel_rfl) (H0.out.below (below_drew _)) (fun hHeld => ?_)
  refine take_at 0 13 (.agg (ordA o)) rfl rfl (by kernel_rfl) (by kernel_rfl) (by kernel_rfl) (fun _ _ _ h => h) (yields_row (by rfl) 85 (.tmp 3) rfl (w.heap.size) rfl 85 (ordA o) (fun W h => h.od) Tryz.underlying85 (ordInfo _)) hHeld ?_
  simp only [put_laws]
  refine take_at 1 14 (.int .u64 (H : Nat)) rfl rfl (by kernel_rfl) (by kernel_rfl) (by kernel_rfl) (fun _ _ _ h => h) (Or.inl ⟨by rfl, by intro W hW; clear hW; go_simp⟩) hHeld ?_
  simp only [put_laws]
  refine take_at 3 16 (.agg (ordA o)) rfl rfl (by kernel_rfl) (by kernel_rfl) (by kernel_rfl) (fun _ _ _ h => h) (yields_row (by rfl) 85 (.tmp 3) rfl (w.heap.size) rfl 85 (ordA o) (fun W h => h.od) Tryz.underlying85 (ordInfo _)) hHeld ?_
  simp only [put_laws]
  refine take_at 4 17 (.int .u64 (F : Nat)) rfl rfl (by kernel_rfl) (by kernel_rfl) (by kernel_rfl) (fun _ _ _ h => h) (Or.inl ⟨by rfl, by intro W hW; clear hW; go_simp⟩) hHeld ?_
  simp only [put_laws]
  refine wpAnyH_ready (rs := [2]) (by kernel_rfl) (by simp) ?_
  refine AllReadyH.cons rfl (fun K hK => ?_) AllReadyH.nil
  go_simp
  refine (standing_any o H _ HR.out hH).mono ?_
  rintro e w1 ⟨v1, rfl, ho1, hb1⟩
  try go_simp
  have hHeld := hHeld.below hb1
  refine hK.out _ _ hHeld (fun hHeld => ?_)
  clear hK K
  refine wpAnyH_ready (rs := [5]) (by kernel_rfl) (by simp) ?_
  refine AllReadyH.cons rfl (fun K hK => ?_) AllReadyH.nil
  go_simp
  refine (standing_any o F _ HR.out hF).mono ?_
  rintro e w2 ⟨v2, rfl, ho2, hb2⟩
  try go_simp
  have hHeld := hHeld.below hb2
  refine hK.out _ _ hHeld (fun hHeld => ?_)
  clear hK K
  have HO1 := Lib.hid ((ho1.below hb2 (Nat.le_refl _)).mono (base' := w.heap.size + 2) (by simp))
  have hs1 := hb1.size
  have hs2 := hb2.size
  have hs0 : w.heap.size + 2 ≤ w2.heap.size := by
    have e : w.heap.size + 2 ≤ w1.heap.size := by simpa using hs1
    omega
  obtain ⟨g2, c2, hv2, _, _⟩ := World.ownsRow.form ho2 hpos
  subst hv2
  have HN := Lib.hid (World.ownsRow.cells ho2 (g := g2) rfl)
  clear ho1 ho2 hb1 hb2 hs1 hs2
  refine wpAnyH_ready (rs := [6]) (by kernel_rfl) (by simp) ?_
  refine AllReadyH.cons rfl (fun K hK => ?_) AllReadyH.nil
  refine step_append_lies _ (by rfl) (.tmp 15) (.tmp 18) 107 (by rfl) (w.heap.size + 2) 3 i0 (.int .i64 0) 1 8 Tryz.underlying107 hi hz0 hz1 hz2 rfl (by decide) v1 _ _ (by rfl) HO1.out ⟨g2, 0, none⟩ (Od.standing o F).length c2 (vals (Od.standing o F)) (by rfl) (by simp [vals]) HN.out ?c1 hpos ?c2 (by omega) hs0 _ rfl ?_
  case c1 =>
    intro u hu
    simp only [vals, List.mem_map] at hu
    obtain ⟨k, _, rfl⟩ := hu
    rfl
  case c2 => unfold maxLen; omega
  intro g cap w3 hown hgrow hat hlt3
  have HW := Lib.hid (show Own w3 (w.heap.size + 2) (.slice (some ⟨g, 0, none⟩) ((Od.standing o H).length + (Od.standing o F).length) cap) (both o H F) from by
    unfold Own both
    have e : vals (Od.standing o H ++ Od.standing o F) = vals (Od.standing o H) ++ vals (Od.standing o F) := by simp [vals]
    rw [e, List.length_append]
    exact hown)
  have hnot : ∀ k, k < w.heap.size + 2 → some k ≠ v1.ownBlock := fun k hk e => by
    have := (World.ownsRow.lt HO1.out k e.symm).1
    omega
  have hHeld : RlSt w o w3 := ⟨grown_ord hHeld.od hgrow (hnot _ (by omega)), grown_ord hHeld.res hgrow (hnot _ (by omega)), hHeld.bel.grown hgrow hHeld.bel.size (fun k hk => by
    have := (World.ownsRow.lt HO1.out k hk).1
    omega)⟩
  clear hown hgrow hat hlt3 HN
  try go_simp
  refine hK.out _ _ hHeld (fun hHeld => ?_)
  clear hK K
  refine take_at 7 7 (.slice (some ⟨g, 0, none⟩) ((Od.standing o H).length + (Od.standing o F).length) cap) rfl rfl (by kernel_rfl) (by kernel_rfl) (by kernel_rfl) (fun _ _ _ h => h) (Or.inl ⟨by rfl, by intro W hW; clear hW; go_simp⟩) hHeld ?_
  simp only [put_laws]
  refine wpAnyH_done (by kernel_rfl) ?_ _
  refine NoPanic.normal ?_
  have HS3 := Lib.hid hHeld
  clear hHeld HO1
  have hlen : (both o H F).length = (Od.standing o H).length + (Od.standing o F).length := List.length_append
  have hlP : (both o H F).length = (Od.placesOf o (H ||| F)).length := Od.both_len HR.out HA.out
  have HLm := Lib.hid (show ∀ k (h : k < (both o H F).length), (both o H F)[k] < 32 from fun k h => both_lt HR.out h)
  have HIt := Lib.hid (had_items HR.out H F)
  have HRl := Lib.hid (show Od.give o ((both o H F).zip (Od.placesOf o (H ||| F))) = Od.relay o H F from rfl)
  generalize hN : (Od.standing o H).length + (Od.standing o F).length = N at *
  have hN64 : N ≤ 64 := by omega
  generalize hL : both o H F = L at *
  have HLen := Lib.hid hlen
  have HLP := Lib.hid hlP
  clear hL hN hlen hlP
  go_wp2
  go_loopw [8, 22] (RlOne o w L (.slice (some ⟨g, 0, none⟩) N cap) (w.heap.size + 2)) (fun _ i _ => 64 - (intOf i).toNat)
  case atStart => exact ⟨0, by omega, rfl, rfl, HW.out, HS3.out⟩
  case round =>
    obtain ⟨k, hk, rfl, rfl, hown, hst⟩ := hrel
    have HOw := Lib.hid hown
    have HSr := Lib.hid hst
    have hq := hadTo_lt o L k
    have hkN : k ≤ N := by rw [← HLen.out]; exact hk
    clear hk
    by_cases hlt : k < N
    · have hlt' : k < L.length := by rw [HLen.out]; exact hlt
      obtain ⟨g', hA, hc⟩ := hown.at_ hlt'
      injection hA with hA
      injection hA with hA
      subst hA
      have ha := HLm.out k hlt'
      have HSt := Lib.hid (hadTo_step (o := o) hlt')
      have hpl := HR.out.pl ha
      have hd := hst.od.cell _ ha
      rw [hpl.1] at hd
      have hp32 := hpl.2.1
      have HE := Lib.hid hpl.1
      clear hown hst hpl
      generalize L[k] = a at *
      rw [HE.out] at HSt
      clear hlt'
      go_wp2_with (go_at_call 111; refine (with_val _ _ _ _ hq (by omega) HSt.out).mono ?_; rintro e w' ⟨rfl, rfl⟩)
      refine ⟨⟨k + 1, by have := HLen.out; omega, by go_num, rfl, HOw.out, HSr.out⟩, by simp [intOf]; omega⟩
    · obtain rfl : N = k := by omega
      clear hown hst
      go_wp2_with fail
      refine (items_any _ _ hq (HT.out.below HSr.out.bel HT.out.lt)).mono ?_
      rintro e w4 ⟨u, rfl, hown4, hb4⟩
      rw [← HLen.out, HIt.out] at hown4
      have HU := Lib.hid (show Own w4 wr.heap.size u (Od.placesOf o (H ||| F)) from hown4)
      have HO4 := Lib.hid (HOw.out.below hb4 (Nat.le_refl _))
      have HS4 := Lib.hid (HSr.out.below hb4)
      have hwr : w.heap.size + 1 < wr.heap.size := HSr.out.res.lt
      clear hown4 hb4
      obtain ⟨A, c, hv, hc1, hc2⟩ := HU.out.shape
      subst hv
      have HPm := Lib.hid (show ∀ k (h : k < (Od.placesOf o (H ||| F)).length), (Od.placesOf o (H ||| F))[k] < 32 from fun k h => (Od.places_mem.1 (List.getElem_mem h)).1)
      generalize hP : Od.placesOf o (H ||| F) = P at *
      have hP64 : P.length ≤ 64 := by have := HLP.out; have := HLen.out; omega
      clear hP
      go_wp2
      go_loopw [35] (RlTwo o w L P (.slice (some ⟨g, 0, none⟩) N cap) (.slice A P.length c) (w.heap.size + 2) wr.heap.size) (fun i _ => 64 - (intOf i).toNat)
      case atStart => exact ⟨0, by omega, rfl, HO4.out, HU.out, HS4.out⟩
      case round =>
        obtain ⟨n, hn, rfl, hownL, hownP, hst⟩ := hrel
        have HL2 := Lib.hid hownL
        have HP2 := Lib.hid hownP
        have HS2 := Lib.hid hst
        by_cases hnl : n < P.length
        · obtain ⟨g', hA, hcL⟩ := hownL.at_ (k := n) (by rw [HLP.out]; exact hnl)
          injection hA with hA
          injection hA with hA
          subst hA
          obtain ⟨gp, hA, hcP⟩ := hownP.at_ hnl
          subst hA
          have hp32 := HPm.out n hnl
          have hnN : n < N := by have := HLP.out; have := HLen.out; omega
          have ha := HLm.out n (by rw [HLP.out]; exact hnl)
          have HGv := Lib.hid (Od.give_step (o := o) (L := L) (P := P) (k := n) (List.getElem?_eq_getElem (by rw [HLP.out]; exact hnl)) (List.getElem?_eq_getElem hnl))
          generalize L[n]'(by rw [HLP.out]; exact hnl) = a at *
          generalize P[n] = p at *
          have hd := hst.od.cell a ha
          have hf := hst.od.frozen a
          clear hownL hownP hst
          go_wp2
          refine ⟨⟨n + 1, by omega, by go_num, HL2.out.setCell _ _ (by simp), HP2.out.setCell _ _ (by simp; omega), (HS2.out.set a p).ext HGv.out⟩, by simp [intOf]; omega⟩
        · obtain rfl : n = P.length := by omega
          have HE := Lib.hid (show RlSt w (Od.relay o H F) wr from HS2.out.ext (by rw [← HRl.out, List.take_of_length_le (by rw [List.length_zip, HLP.out]; exact Nat.min_le_left _ _)]))
          clear hownL hownP hst
          go_wp2_with (first
            | (refine wpList_load_row rfl 85 (.tmp 3) rfl w.heap.size rfl 85 (ordA (Od.relay o H F)) (0, 0) _ HE.out.od Tryz.underlying85 rfl (ordInfo _) ?_)
            | (refine wpList_store_row rfl 85 (.tmp 6) (.tmp 47) rfl (w.heap.size + 1) (ordA (Od.relay o H F)) rfl rfl 85 _ HE.out.res (ordInfo _) (by rw [ordA_size, ordA_size]) (ordA_one _) ?_))
          refine bodyPost_ret (results_cell_row rfl _ _ (w.heap.size + 1) 85 (ordA (Od.relay o H F)) (0, 0) _ rfl (setRow_heap _ _ _ _ _ _ HE.out.res) Tryz.underlying85 rfl (ordInfo _)) rfl ⟨rfl, ?_⟩
          exact setRow_below HE.out.bel (by omega)
end Go.Proofs.YtfdfiiocccafkaaGreatDoor
namespace Go.Proofs.YtfdfiiocccafkaaGreatDoor
open Go.RowKit
theorem results_three {fn : Func} {p q u : Tmp} {ty tz : TypeId} (h : fn.results = #[.cell p ty, .cell q tz, .tmp u]) (tmps : Array Value) (w : World) (g k : Nat) (t t' : TypeId) (cs ds : Array Value) (n n' : Nat) (el el' : TypeId) (x : Value)
    (hp : tmps.getD p undef = .pointer (some ⟨g, 0, none⟩)) (hq : tmps.getD q undef = .pointer (some ⟨k, 0, none⟩)) (hx : tmps.getD u undef = x) (hg : w.heap[g]? = some (.cells cs t (0, 0))) (hk : w.heap[k]? = some (.cells ds t' (0, 0)))
    (hu : Tryz.prog.underlying ty = some (.array n el)) (hu' : Tryz.prog.underlying tz = some (.array n' el')) (hi : (Tryz.prog.info? ty).map (·.size) = some cs.size) (hi' : (Tryz.prog.info? tz).map (·.size) = some ds.size) :
    (results fn tmps).run Tryz.prog w = .ok (.tuple #[.agg cs, .agg ds, x]) w := by
  have hp' : tmps[p]?.getD undef = .pointer (some ⟨g, 0, none⟩) := by simpa using hp
  have hq' : tmps[q]?.getD undef = .pointer (some ⟨k, 0, none⟩) := by simpa using hq
  have hx' : tmps[u]?.getD undef = x := by simpa using hx
  simp only [results, h]
  simp [Sem.run_bind, hp', hq', hx', asAddr, Result.andThen, run_loadVar_row w g t ty cs (0, 0) _ hg hu rfl hi, run_loadVar_row w k t' tz ds (0, 0) _ hk hu' rfl hi']
theorem step_store_row {w : World} {ops : Array Oper} {o : Oper} {a : Act} {K : Act → World → Prop} {Q : Exit → Act → World → Prop} {E : Prop} (hgd : o.guard = none) (ty : TypeId) (x y : Operand) (ho : o.op = .store ty x y)
    (g : Nat) (cells : Array Value) (hx : a.eval x = .pointer (some ⟨g, 0, none⟩)) (hy : a.eval y = .agg cells)
    (t : TypeId) (old : Array Value) (hg : w.heap[g]? = some (.cells old t (0, 0))) (hi : (Tryz.prog.info? ty).map (·.size) = some cells.size)
    (hold : old.size = cells.size) (h1 : cells.all (·.oneCell') = true)
    (h : K (a.put o.dst undef) (w.setRow g cells)) : if Region.wanted o (yielded ops a.tmps) = true then Oper.wp Tryz.prog o a w K Q else E := by
  have hw : Region.wanted o (yielded ops a.tmps) = true := by simp [Region.wanted, hgd]
  rw [if_pos hw]
  exact wp_store_row ty x y ho g cells hx hy t old hg hi hold h1 h
/-- where both Inserts keep things: the graph, the order, both results. -/
structure ISt (t u : Nat) (w : World) (m : Mm.Gr) (o : Od.O) (W : World) : Prop where
  gr : MatAt W w.heap.size m t
  od : OrdAt W (w.heap.size + 1) o u
  rg : ∃ x, MatAt W (w.heap.size + 2) x t
  ro : ∃ x, OrdAt W (w.heap.size + 3) x u
  tab : TabAt W
  bel : Below w.heap.size w W
theorem ISt.below {t u : Nat} {w W W' : World} {m : Mm.Gr} {o : Od.O} (h : ISt t u w m o W) (hb : Below W.heap.size W W') : ISt t u w m o W' :=
  ⟨h.gr.below hb, h.od.below hb, h.rg.imp fun _ h => h.below hb, h.ro.imp fun _ h => h.below hb, tab_below h.tab hb, h.bel.trans (hb.mono h.bel.size)⟩
theorem ISt.alloc {t u : Nat} {w W : World} {m : Mm.Gr} {o : Od.O} (h : ISt t u w m o W) (ob : Obj) : ISt t u w m o (W.alloc ob) := h.below (below_new W ob)
theorem ISt.drew {t u : Nat} {w W : World} {m : Mm.Gr} {o : Od.O} (h : ISt t u w m o W) : ISt t u w m o W.drew := h.below (below_drew W)
theorem ISt.drewN {t u : Nat} {w W : World} {m : Mm.Gr} {o : Od.O} (h : ISt t u w m o W) (n : Nat) : ISt t u w m o (W.drewN n) := h.below (below_drewN (Below.refl _ _) n)
theorem ist_first {w : World} (t u : Nat) (m : Mm.Gr) (o : Od.O) (hT : TabAt w) :
    ISt t u w m o ((((w.alloc (.cells (matA m) t)).alloc (.cells (ordA o) u)).alloc (.cells (Array.replicate 32 (Value.int .u64 0)) t)).alloc (.cells (Array.replicate 32 (Value.int .i64 0)) u)) := by
  have h1 : OrdAt ((w.alloc (.cells (matA m) t)).alloc (.cells (ordA o) u)) (w.heap.size + 1) o u := by
    have := ordAt_new (w.alloc (.cells (matA m) t)) o u
    simpa using this
  have h2 : MatAt (((w.alloc (.cells (matA m) t)).alloc (.cells (ordA o) u)).alloc (.cells (Array.replicate 32 (Value.int .u64 0)) t)) (w.heap.size + 2) zeroM t := by
    have := zero_lit ((w.alloc (.cells (matA m) t)).alloc (.cells (ordA o) u)) t
    simpa using this
  have h3 : OrdAt ((((w.alloc (.cells (matA m) t)).alloc (.cells (ordA o) u)).alloc (.cells (Array.replicate 32 (Value.int .u64 0)) t)).alloc (.cells (Array.replicate 32 (Value.int .i64 0)) u)) (w.heap.size + 3) zeroO u := by
    have := zeroO_lit (((w.alloc (.cells (matA m) t)).alloc (.cells (ordA o) u)).alloc (.cells (Array.replicate 32 (Value.int .u64 0)) t)) u
    simpa using this
  exact ⟨(((matAt_new w m t).alloc _).alloc _).alloc _, (h1.alloc _).alloc _, ⟨_, h2.alloc _⟩, ⟨_, h3⟩, tabAt_new (tabAt_new (tabAt_new (tabAt_new hT _) _) _) _,
    ((((Below.refl _ _).alloc (Nat.le_refl _) _).alloc (by simp) _).alloc (by simp; omega) _).alloc (by simp; omega) _⟩
/-- a result is stored. -/
theorem ISt.setG {t u : Nat} {w W : World} {m n : Mm.Gr} {o : Od.O} (h : ISt t u w m o W) : ISt t u w m o (W.setRow (w.heap.size + 2) (matA n)) ∧ MatAt (W.setRow (w.heap.size + 2) (matA n)) (w.heap.size + 2) n t := by
  obtain ⟨x, hx⟩ := h.rg
  have := h.tab.lt
  refine ⟨⟨h.gr.setRow _ (by omega), h.od.setRow _ (by omega), ⟨n, matAt_put hx⟩, h.ro.imp fun _ h => h.setRow _ (by omega), tab_row h.tab ?_, setRow_below h.bel (by omega)⟩, matAt_put hx⟩
  have hb := h.bel.size
  intro e
  omega
theorem ISt.setO {t u : Nat} {w W : World} {m : Mm.Gr} {o q : Od.O} (h : ISt t u w m o W) : ISt t u w m o (W.setRow (w.heap.size + 3) (ordA q)) ∧ OrdAt (W.setRow (w.heap.size + 3) (ordA q)) (w.heap.size + 3) q u := by
  obtain ⟨x, hx⟩ := h.ro
  refine ⟨⟨h.gr.setRow _ (by omega), h.od.setRow _ (by omega), h.rg.imp fun _ h => h.setRow _ (by omega), ⟨q, ordAt_put hx⟩, tab_row h.tab ?_, setRow_below h.bel (by omega)⟩, ordAt_put hx⟩
  intro e
  omega
theorem ISt.setG' {t u : Nat} {w W : World} {m n : Mm.Gr} {o : Od.O} {q : Od.O} (_h : ISt t u w m o W) (hq : OrdAt W (w.heap.size + 3) q u) : OrdAt (W.setRow (w.heap.size + 2) (matA n)) (w.heap.size + 3) q u := hq.setRow _ (by omega)
/- may there be an edge? -/
theorem not_may {a b : Int} (ha : -9223372036854775808 ≤ a ∧ a ≤ 9223372036854775807) (hb : -9223372036854775808 ≤ b ∧ b ≤ 9223372036854775807) (h : ¬ Od.May a b) :
    Far a ∨ (∃ x : Nat, a = x ∧ x < 32 ∧ Far b) ∨ (∃ x : Nat, a = x ∧ b = x ∧ x < 32) := by
  unfold Od.May at h
  unfold Far
  by_cases h1 : 0 ≤ a ∧ a < 32
  · obtain ⟨x, rfl⟩ := Int.eq_ofNat_of_zero_le h1.1
    by_cases h2 : 0 ≤ b ∧ b < 32
    · have : ((x : Nat) : Int) = b := Classical.byContradiction fun h3 => h ⟨h1, h2, h3⟩
      exact .inr (.inr ⟨x, rfl, this.symm, by omega⟩)
    · exact .inr (.inl ⟨x, rfl, by omega, hb, by omega⟩)
  · exact .inl ⟨ha, by omega⟩
theorem put_not (m : Mm.Gr) (a b : Int) (w : World) (ha : -9223372036854775808 ≤ a ∧ a ≤ 9223372036854775807) (hb : -9223372036854775808 ≤ b ∧ b ≤ 9223372036854775807) (h : ¬ Od.May a b) :
    Calls Tryz.prog 147 #[.agg (matA m), .int .i64 a, .int .i64 b] w fun e w' => e = .returned (.tuple #[.agg (matA m), .bool false]) ∧ Below w.heap.size w w' := by
  rcases not_may ha hb h with h | ⟨x, rfl, hx, h⟩ | ⟨x, rfl, rfl, hx⟩
  · exact put_no1 m a b w h
  · exact put_no2 m x b w hx h
  · exact put_no3 m x w hx
end Go.Proofs.YtfdfiiocccafkaaGreatDoor
